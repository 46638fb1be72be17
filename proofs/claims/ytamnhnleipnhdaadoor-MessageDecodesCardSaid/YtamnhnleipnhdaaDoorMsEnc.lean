/-
  linesideref06.Encode, walked.
-/
import Derived.Test.YtamnhnleipnhdaaDoorMgI



namespace Go.Proofs.YtamnhnleipnhdaaDoor

open Go.RowKit

open BitsM

theorem items_len2 (id : Int) (V : List Int) : (itemsF id V).1.length ≤ 8184 := by
  by_cases h : (itemsF id V).2 = 0
  · have h2 : itemsF id V = ((itemsF id V).1, 0) := by rw [← h]
    have hb := items_big h2
    obtain ⟨_, _, _, _, _, _, ht⟩ := items_ok h2
    have hf := items_fit id V
    have hl : ∀ l : List (Int × Int), (∀ x ∈ l, FitP x) → l.length ≤ (laidOf l).length := by
      intro l hl
      induction l with
      | nil => simp
      | cons x l ih =>
        have h1 := (hl x (by simp)).2.2.1
        have h3 := ih fun y hy => hl y (by simp [hy])
        rw [show x :: l = [x] ++ l from rfl, laid_append, laid_one, List.length_append, List.length_append, wbits_length]
        simp
        omega
    have := hl _ hf
    omega
  · rw [items_err h]; simp

theorem fit_len (l : List (Int × Int)) (hl : ∀ x ∈ l, FitP x) : l.length ≤ (laidOf l).length := by
  induction l with
  | nil => simp
  | cons x l ih =>
    have h1 := (hl x (by simp)).2.2.1
    have h3 := ih fun y hy => hl y (by simp [hy])
    rw [show x :: l = [x] ++ l from rfl, laid_append, laid_one, List.length_append, List.length_append, wbits_length]
    simp
    omega
theorem own_cap6 {w : World} {base : Nat} {e : TypeId} {size n c : Nat} {A : Option Addr} {xs : List Value} (h : w.ownsRow base e size (.slice A n c) n xs) : n ≤ c := by
  rcases h.2 with ⟨e1, e2⟩ | ⟨_, cap, _, e1, _, _, h3, _⟩
  · omega
  · injection e1 with _ _ e3
    omega
theorem push_bits {base : Nat} {w0 w : World} {A : Option Addr} {m c : Nat} {l : List (Int × Int)} (n k : Int) (ho : w.ownsRow base 53 2 (.slice A m c) m (pairs l)) (hb : Below base w0 w) (hbase : base ≤ w.heap.size) (hm : m ≤ 1048576) :
    Hid (([.int .i64 n, .int .i64 k] : List Value).length = 1 * 2) ∧ Hid ((w.alloc (.cells #[.int .i64 n, .int .i64 k] 53)).ownsRow base 53 2 (.slice A m c) m (pairs l)) ∧
    Hid (∀ i u, ([.int .i64 n, .int .i64 k] : List Value)[i]? = some u → (w.alloc (.cells #[.int .i64 n, .int .i64 k] 53)).cell? ((⟨w.heap.size, 0, none⟩ : Addr).add i) = some u) ∧
    Hid (∀ u ∈ ([.int .i64 n, .int .i64 k] : List Value), u.oneCell' = true) ∧
    Hid (m + 1 ≤ maxLen ∧ (m + 1) * 16 ≤ 140737488355328 ∧ base ≤ (w.alloc (.cells #[.int .i64 n, .int .i64 k] 53)).heap.size) ∧
    Hid (Below base w0 (w.alloc (.cells #[.int .i64 n, .int .i64 k] 53))) := by
  refine ⟨Lib.hid rfl, Lib.hid (ho.alloc _), cell_news w _ _ _ rfl, Lib.hid ?_, Lib.hid ⟨by unfold maxLen; omega, by omega, by simp; omega⟩, Lib.hid (hb.alloc hbase _)⟩
  intro u hu
  simp only [List.mem_cons, List.not_mem_nil, or_false] at hu
  rcases hu with rfl | rfl <;> rfl
theorem pairs_take {L : List Nat} {N : List Int} {j : Nat} (h1 : j < L.length) (h2 : j < N.length) : pairsOf (L.take (j + 1)) (N.take (j + 1)) = pairsOf (L.take j) (N.take j) ++ [(N[j], (widthOf L[j] : Int))] ∧ maysOf (L.take (j + 1)) (N.take (j + 1)) = (maysOf (L.take j) (N.take j) && mayOf L[j] N[j]) := by
  have e : (L.take (j + 1)).zip (N.take (j + 1)) = (L.take j).zip (N.take j) ++ [(L[j], N[j])] := by
    rw [List.take_succ_eq_append_getElem h1, List.take_succ_eq_append_getElem h2, List.zip_append (by simp; omega)]
    rfl
  unfold pairsOf maysOf
  rw [e, List.map_append, List.all_append]
  exact ⟨rfl, by simp⟩
theorem mays_pre {L : List Nat} {N : List Int} (j : Nat) (h : maysOf L N = true) : maysOf (L.take j) (N.take j) = true := by
  unfold maysOf at h ⊢
  rw [List.all_eq_true] at h ⊢
  intro x hx
  obtain ⟨i, hi, rfl⟩ := List.getElem_of_mem hx
  simp only [List.length_zip, List.length_take] at hi
  have h2 := h ((L.zip N)[i]'(by simp; omega)) (List.getElem_mem _)
  simpa using h2

theorem packs_all : ∀ (P : List (Int × List Int)), (∀ p ∈ P, (itemsF p.1 p.2).2 = 0) → packsF P = (P.flatMap fun p => (itemsF p.1 p.2).1, 0)
  | [], _ => rfl
  | p :: l, h => by
    have ih := packs_all l fun q hq => h q (by simp [hq])
    have a := h p (by simp)
    rw [packsF, if_neg (by omega), ih, if_neg (by simp)]
    rfl
theorem packs_first : ∀ (P : List (Int × List Int)) (j : Nat) (p : Int × List Int), (∀ q ∈ P.take j, (itemsF q.1 q.2).2 = 0) → P[j]? = some p → (itemsF p.1 p.2).2 ≠ 0 → packsF P = ([], (itemsF p.1 p.2).2)
  | [], j, p, _, h, _ => by simp at h
  | q :: l, 0, p, _, h, he => by
    simp at h
    subst h
    rw [packsF, if_pos he]
  | q :: l, j + 1, p, hq, h, he => by
    have ih := packs_first l j p (fun x hx => hq x (by simp [hx])) (by simpa using h) he
    have a := hq q (by simp)
    rw [packsF, if_neg (by omega), ih, if_pos he]
def flatJ (P : List (Int × List Int)) (j : Nat) : List (Int × Int) := (P.take j).flatMap fun p => (itemsF p.1 p.2).1
theorem flat_step {P : List (Int × List Int)} {j : Nat} {p : Int × List Int} (h : P[j]? = some p) : flatJ P (j + 1) = flatJ P j ++ (itemsF p.1 p.2).1 := by
  obtain ⟨h1, h2⟩ := List.getElem?_eq_some_iff.1 h
  unfold flatJ
  rw [List.take_succ_eq_append_getElem h1, List.flatMap_append, h2]
  simp
theorem pairs_app (a b : List (Int × Int)) : pairs (a ++ b) = pairs a ++ pairs b := by simp [pairs]
theorem pairs_one (l : List (Int × Int)) : ∀ v ∈ pairs l, v.oneCell' = true := by
  intro v hv
  simp only [pairs, List.mem_flatMap, List.mem_cons, List.not_mem_nil, or_false] at hv
  obtain ⟨x, _, rfl | rfl⟩ := hv <;> rfl
def Bytes0 (base : Nat) (w w' : World) (e : Ending) (E : List Nat × Int) : Prop :=
  ∃ A' c', e = .returned (.tuple #[.slice A' E.1.length c', .int .i64 E.2]) ∧ At8 w' A' E.1 ∧ E.1.length ≤ c' ∧ Below base w w'
theorem bytes_none0 {w w' : World} (h : Below w.heap.size w w') (k : Int) : Bytes0 w.heap.size w w' (.returned (.tuple #[.slice none 0 0, .int .i64 k])) ([], k) :=
  ⟨none, 0, rfl, fun h => absurd h (by simp), Nat.le_refl _, h⟩

set_option maxRecDepth 100000 in
set_option maxHeartbeats 8000000 in
theorem mencode_out (id t a o : Int) (A : Option Addr) (n c : Nat) (B : Option Addr) (m d : Nat) (w : World) (hk : mknown id = false) :
    Calls Tryd.prog 13 #[msgV id t a o A n c B m d] w fun e w' => Bytes0 w.heap.size w w' e ([], 4) := by
  have hb0 : Below w.heap.size w (w.alloc (.cells #[.int .i64 id, .int .i64 t, .int .i64 a, .int .i64 o, .slice A n c, .slice B m d] 25)) := (Below.refl _ _).alloc (Nat.le_refl _) _
  have HB0 := Lib.hid hb0
  have hg := fun W => mget_any id W
  rw [hk] at hg
  unfold rowV at hg
  generalize mrow id = R at *
  have HG := Lib.hid hg
  clear hb0 hg hk
  unfold msgV msgCells
  go_enter Tryd.func13, Tryd.ntmps13
  go_wp2_with fail
  refine (HG.out _).mono ?_
  rintro e w1 ⟨rfl, hb1⟩
  have h1 := HB0.out.trans (hb1.mono HB0.out.size)
  have HB1 := Lib.hid (h1.alloc h1.size (.cells #[.string R.own, .string R.must, .string R.may] 60))
  clear hb1 h1 HB0
  go_wp2
  go_ret2
  exact bytes_none0 HB1.out 4

set_option maxRecDepth 100000 in
set_option maxHeartbeats 8000000 in
theorem mencode_in (id t a o : Int) (A : Option Addr) (n c : Nat) (B : Option Addr) (m d : Nat) (V : List Int) (l : List PkE) (w : World) (hk : mknown id = true)
    (hV : SlI w.heap.size w A n c V) (hl : SlK w B m d l) (hn : n ≤ 30) (hm : m ≤ 30) (hpk : ∀ p ∈ l, p.n ≤ 3000) :
    Calls Tryd.prog 13 #[msgV id t a o A n c B m d] w fun e w' => Bytes0 w.heap.size w w' e (encF (msgOf id t a o V l)) := by
  obtain ⟨E, hE⟩ : ∃ E, encF (msgOf id t a o V l) = E := ⟨_, rfl⟩
  rw [hE]
  have hsh := mshape hk
  have HE := Lib.hid hE
  have HG := Lib.hid (fun W => mget_any id W)
  rw [hk] at HG
  have HU := Lib.hid (fun W => mup_any id W)
  have HN := Lib.hid (fun W => names_any id (mrow id) hsh.ownS W)
  have HF := Lib.hid (fun (A : Option Addr) (m c : Nat) (l : List PkE) W hl hm => fits_any (mrow id) hsh.mayS (by rw [hsh.must]; split <;> (try split) <;> decide) A m c l W hl hm)
  have HV := Lib.hid (fun W (hW : Below w.heap.size w W) => sliUnder hV hW)
  have HL := Lib.hid (fun W (hW : Below w.heap.size w W) => hl.under hW)
  have HVN := Lib.hid hV.len
  have HNV := Lib.hid (names_vars hk)
  have HPK := Lib.hid hpk
  have hsl : (namesS id (mrow id).own).length = (mvars id).length := by have := congrArg List.length HNV.out; simpa using this
  have hml : (mvars id).length ≤ 8 := by
    have := hsh.ownN
    unfold mvars baseV
    cases mup id <;> simp <;> omega
  have HVA := Lib.hid (fun W h => values_any id t a o A n c B m d V W h (by omega))
  have HK := Lib.hid hk
  have HFT := Lib.hid (fun ids => fits_text hk ids)
  obtain ⟨w0, hw0⟩ : ∃ w0, w.alloc (.cells #[.int .i64 id, .int .i64 t, .int .i64 a, .int .i64 o, .slice A n c, .slice B m d] 25) = w0 := ⟨_, rfl⟩
  have hb0 : Below w.heap.size w w0 := by rw [← hw0]; exact (Below.refl _ _).alloc (Nat.le_refl _) _
  have hsz : w.heap.size < w0.heap.size := by rw [← hw0]; simp
  have hh : Has w0 w.heap.size 25 #[.int .i64 id, .int .i64 t, .int .i64 a, .int .i64 o, .slice A n c, .slice B m d] := by rw [← hw0]; exact Has.made _ _ _
  have HM := Lib.hid (fun W (hW : Below w0.heap.size w0 W) => hh.under hW hsz)
  have HB0 := Lib.hid hb0
  have k0 : w0.cell? ⟨w.heap.size, 0, none⟩ = some (.int .i64 id) := by rw [hh.cell]; rfl
  clear hb0 hh hV hl hpk hE hsh hk
  unfold rowV at *
  generalize namesS id (mrow id).own = S at *
  generalize mrow id = R at *
  obtain ⟨K, hKK⟩ : ∃ K, (mvars id).length = K := ⟨_, rfl⟩
  rw [hKK] at hsl hml
  simp only [hsl] at HN
  have HSL := Lib.hid hsl
  have HKK := Lib.hid hKK
  clear hsl hKK
  unfold msgV msgCells at *
  go_enter Tryd.func13, Tryd.ntmps13
  go_wp2_with fail
  refine (HG.out _).mono ?_
  rintro e w1 ⟨rfl, hb1⟩
  obtain ⟨g, hg⟩ : ∃ g, w1.heap.size = g := ⟨_, rfl⟩
  obtain ⟨w2, hw2⟩ : ∃ w2, w1.alloc (.cells #[.string R.own, .string R.must, .string R.may] 60) = w2 := ⟨_, rfl⟩
  have hb2 : Below w0.heap.size w0 w2 := by rw [← hw2]; exact hb1.alloc hb1.size _
  have hh2 : Has w2 g 60 #[.string R.own, .string R.must, .string R.may] := by rw [← hw2, ← hg]; exact Has.made _ _ _
  have hsg : g < w2.heap.size := by rw [← hw2, ← hg]; simp
  have HR := Lib.hid (fun W (hW : Below w2.heap.size w2 W) => hh2.under hW hsg)
  have HB2 := Lib.hid hb2
  have k20 : w2.cell? ⟨w.heap.size, 0, none⟩ = some (.int .i64 id) := by rw [(HM.out w2 hb2).cell]; rfl
  clear hb1 hb2 hh2 k0 HG
  go_wp2_with fail
  skip
  clear hw0 hw2 hg k20
  refine (HU.out _).mono ?_
  rintro e w3 ⟨rfl, hb3⟩
  have HB3 := Lib.hid (HB2.out.trans (hb3.mono HB2.out.size))
  have HR3 := Lib.hid (fun W (hW : Below w3.heap.size w3 W) => HR.out W (hb3.trans (hW.mono hb3.size)))
  have k30 : w3.cell? ⟨w.heap.size, 0, none⟩ = some (.int .i64 id) := by rw [(HM.out w3 HB3.out).cell]; rfl
  obtain ⟨r0, r1, r2⟩ : w3.cell? ⟨g, 0, none⟩ = some (.string R.own) ∧ w3.cell? ⟨g, 1, none⟩ = some (.string R.must) ∧ w3.cell? ⟨g, 2, none⟩ = some (.string R.may) := by
    have h := HR3.out w3 (Below.refl _ _)
    rw [h.cell, h.cell, h.cell]; exact ⟨rfl, rfl, rfl⟩
  clear hb3 HR HB2 HU
  go_wp2_with fail
  refine (HN.out _).mono ?_
  rintro e w4 ⟨A4, c4, rfl, hs4, hb4⟩
  have HB4 := Lib.hid (HB3.out.trans (hb4.mono HB3.out.size))
  have HR4 := Lib.hid (fun W (hW : Below w4.heap.size w4 W) => HR3.out W (hb4.trans (hW.mono hb4.size)))
  have HS4 := Lib.hid hs4
  obtain ⟨k0, k1, k2, k3, k4, k5⟩ : w4.cell? ⟨w.heap.size, 0, none⟩ = some (.int .i64 id) ∧ w4.cell? ⟨w.heap.size, 1, none⟩ = some (.int .i64 t) ∧ w4.cell? ⟨w.heap.size, 2, none⟩ = some (.int .i64 a) ∧ w4.cell? ⟨w.heap.size, 3, none⟩ = some (.int .i64 o) ∧ w4.cell? ⟨w.heap.size, 4, none⟩ = some (.slice A n c) ∧ w4.cell? ⟨w.heap.size, 5, none⟩ = some (.slice B m d) := by
    have h := HM.out w4 HB4.out
    rw [h.cell, h.cell, h.cell, h.cell, h.cell, h.cell]; exact ⟨rfl, rfl, rfl, rfl, rfl, rfl⟩
  have HVA4 := Lib.hid (HVA.out w4 (HV.out w4 (HB0.out.trans (HB4.out.mono HB0.out.size))))
  clear hs4 hb4 HR3 HB3 HN r0 r1 r2 k30 HVA
  go_wp2_with fail
  refine HVA4.out.mono ?_
  rintro e w5 ⟨A5, c5, rfl, hs5, hb5⟩
  have HB5 := Lib.hid (HB4.out.trans (hb5.mono HB4.out.size))
  have HR5 := Lib.hid (fun W (hW : Below w5.heap.size w5 W) => HR4.out W (hb5.trans (hW.mono hb5.size)))
  have HS5 := Lib.hid (HS4.out.under hb5)
  have HN5 := Lib.hid hs5
  obtain ⟨L, hL⟩ : ∃ L, valsL (mup id) t a o V = L := ⟨_, rfl⟩
  rw [hL] at HN5 ⊢
  have hLv : mvals (msgOf id t a o V l) = L := by rw [vals_of]; exact hL
  have HLV := Lib.hid hLv
  have hLl : L.length ≤ 34 := by rw [← hL]; have := HVN.out; unfold valsL; cases mup id <;> simp <;> omega
  have k2 : w5.cell? ⟨w.heap.size, 2, none⟩ = some (.int .i64 a) := by rw [(HM.out w5 HB5.out).cell]; rfl
  have k0 : w5.cell? ⟨w.heap.size, 0, none⟩ = some (.int .i64 id) := by rw [(HM.out w5 HB5.out).cell]; rfl
  have HE2 := HE.out
  unfold encF at HE2
  rw [if_neg (show ¬ mknown (msgOf id t a o V l).id = false by rw [show (msgOf id t a o V l).id = id from rfl, HK.out]; decide), hLv, show (msgOf id t a o V l).id = id from rfl, show (msgOf id t a o V l).ack = a from rfl, HKK.out] at HE2
  generalize mup id = u at *
  have HE3 := Lib.hid HE2
  clear hs5 hb5 HR4 HB4 HS4 HVA4 HE2 k1 k3 k4 k5 hL hLv
  have hbig : Below w.heap.size w w5 := HB0.out.trans (HB5.out.mono HB0.out.size)
  have HBG := Lib.hid hbig
  clear hbig
  by_cases hx : K ≠ L.length ∨ (u = true ∧ a ≠ 0)
  · have hEE : E = ([], 20) := by rw [← HE3.out, if_pos hx]
    subst hEE
    by_cases hx1 : K = L.length
    · obtain ⟨rfl, hx2⟩ : u = true ∧ a ≠ 0 := hx.resolve_left (fun k => k hx1)
      have e1 : ((K : Int) != (L.length : Int)) = false := by simp [hx1]
      have e2 : (a != 0) = true := by simp [hx2]
      have e3 : (a == 0) = false := by simp [hx2]
      clear hx hx1 hx2
      go_wp2
      go_ret2
      exact bytes_none0 HBG.out 20
    · have e1 : ((K : Int) != (L.length : Int)) = true := by simp; omega
      have e2 : ((K : Int) == (L.length : Int)) = false := by rw [beq_eq_false_iff_ne]; omega
      clear hx
      go_wp2
      go_ret2
      exact bytes_none0 HBG.out 20
  · have hx1 : K = L.length := by
      by_cases h : K = L.length
      · exact h
      · exact absurd (.inl h) hx
    have hx2 : u = true → a = 0 := fun hu => by
      by_cases h : a = 0
      · exact h
      · exact absurd (.inr ⟨hu, h⟩) hx
    have HE4 : Hid _ := Lib.hid (by have h := HE3.out; rw [if_neg hx] at h; exact h)
    have e1 : ((K : Int) != (L.length : Int)) = false := by simp [hx1]
    have e2 : ((K : Int) == (L.length : Int)) = true := by simp [hx1]
    clear hx HE3
    subst hx1
    go_upto_region 7 with fail
    go_cut [48] (fun s wc => s = .bool false ∧ wc = w5)
    case first =>
      cases u
      · go_wp2
        go_meet
        exact ⟨rfl, rfl⟩
      · have ha := hx2 rfl
        subst ha
        go_wp2
        go_meet
        exact ⟨rfl, rfl⟩
    case rest =>
      obtain ⟨rfl, rfl⟩ := hcut
      have hlit := World.ownsRow_lit (base := wc.heap.size) (e := 53) (size := 2) wc #[.int .i64 id, .int .i64 8, .int .i64 0, .int .i64 10] 2 (Nat.le_refl _) (by unfold maxLen; omega) rfl
      have hlit : (wc.alloc (.cells #[.int .i64 id, .int .i64 8, .int .i64 0, .int .i64 10] 53)).ownsRow wc.heap.size 53 2 (.slice (some ⟨wc.heap.size, 0, none⟩) 2 2) 2 (pairs [(id, 8), (0, 10)]) := hlit
      have HLI := Lib.hid hlit
      obtain ⟨M, hM⟩ : ∃ M, mvars id = M := ⟨_, rfl⟩
      rw [hM] at HKK HNV HE4
      have HMM := Lib.hid hM
      clear hlit hM e1 e2 hx2 HVN hsz
      go_wp2
      go_loopw [9, 10] (fun v i wr => ∃ (j : Nat) (A3 : Option Addr) (c3 : Nat), j ≤ L.length ∧ i = .int .i64 (j : Nat) ∧ v = .slice A3 (2 + j) c3 ∧ maysOf (M.take j) (L.take j) = true ∧ wr.ownsRow wc.heap.size 53 2 (.slice A3 (2 + j) c3) (2 + j) (pairs ([(id, 8), (0, 10)] ++ pairsOf (M.take j) (L.take j))) ∧ Below wc.heap.size wc wr) (fun _ i _ => L.length - (intOf i).toNat)
      case atStart => exact ⟨0, some ⟨wc.heap.size, 0, none⟩, 2, by omega, rfl, rfl, rfl, HLI.out, (Below.refl _ _).alloc (Nat.le_refl _) _⟩
      case round =>
        obtain ⟨j, A3, c3, hj, rfl, rfl, hmy, ho, hb⟩ := hrel
        have HO := Lib.hid ho; have HB := Lib.hid hb; have HMY := Lib.hid hmy
        clear ho hb hmy
        by_cases hlt : j < L.length
        · have hjM : j < M.length := by rw [HKK.out]; exact hlt
          have hjS : j < S.length := by rw [HSL.out]; exact hlt
          obtain ⟨b0, o0, hA4, f0⟩ := (HS5.out.under HB.out).at_ hlt
          obtain ⟨b1, o1, hA5, gw⟩ := HN5.out.at_ hlt
          have g0 := (HB.out.cell (p := ⟨b1, o1 + j, none⟩) (cell_block gw)).trans gw
          have hfd : findOf (S.getD j ⟨#[]⟩) = (M[j] : Nat) := by
            have h := congrArg (fun l => l[j]?) HNV.out
            simp only [List.getElem?_map, List.getElem?_eq_getElem hjS, List.getElem?_eq_getElem hjM, Option.map_some, Option.some.injEq] at h
            rw [List.getD_eq_getElem?_getD, List.getElem?_eq_getElem hjS]
            exact h
          have hgd : L.getD j 0 = L[j] := by rw [List.getD_eq_getElem?_getD, List.getElem?_eq_getElem hlt]; rfl
          rw [hgd] at g0 gw
          obtain ⟨hpt, hmt⟩ := pairs_take (L := M) (N := L) hjM hlt
          rw [HMY.out, Bool.true_and] at hmt
          have hfi := fun W => ref_find (S.getD j ⟨#[]⟩) W
          rw [hfd] at hfi
          have hma := fun W => ref_may (M[j] : Nat) L[j] W
          have hwi := fun W => ref_width (M[j] : Nat) W
          generalize S.getD j ⟨#[]⟩ = s at *
          generalize mayOf (M[j] : Nat) L[j] = bm at *
          generalize widthOf (M[j] : Nat) = kw at *
          generalize L[j] = y at *
          generalize M[j] = v at *
          have HFI := Lib.hid hfi; have HMA := Lib.hid hma; have HWI := Lib.hid hwi; have HPT := Lib.hid hpt; have HMT := Lib.hid hmt
          have HA5 := Lib.hid hA5
          clear hfi hma hwi hpt hmt hfd hgd hA5
          have KC := Lib.hid (fun W (hW : Below wr.heap.size wr W) => (hW.cell (p := ⟨b1, o1 + j, none⟩) (cell_block g0)).trans g0)
          have KW := Lib.hid (fun W (hW : Below wc.heap.size wc W) => (hW.cell (p := ⟨b1, o1 + j, none⟩) (cell_block gw)).trans gw)
          have x0 : (0 : Int) ≤ j := by omega
          have x1 : (j : Int) < L.length := by omega
          have hA5 := HA5.out
          subst hA4
          subst hA5
          go_wp2_with fail
          refine (HFI.out _).mono ?_
          rintro e w6 ⟨rfl, hb6⟩
          have g6 := KC.out w6 hb6
          clear g0 gw
          have HB6 := Lib.hid hb6
          clear hb6 f0
          go_wp2_with fail
          refine (HMA.out _).mono ?_
          rintro e w7 ⟨rfl, hb7⟩
          have HB7 := Lib.hid (HB6.out.trans (hb7.mono HB6.out.size))
          clear hb7 g6 HFI HMA
          cases bm
          · have hmF : maysOf M L = false := by
              cases hd : maysOf M L
              · rfl
              · have h := mays_pre (j + 1) hd
                rw [HMT.out] at h
                cases h
            have hEE : E = ([], 20) := by rw [← HE4.out, if_pos hmF]
            subst hEE
            have HBF := Lib.hid (HBG.out.trans ((HB.out.trans (HB7.out.mono HB.out.size)).mono HBG.out.size))
            clear hmF
            go_wp2
            go_ret2
            exact bytes_none0 HBF.out 20
          · have g7 := KC.out w7 HB7.out
            have HO7 := Lib.hid (own_under HO.out HB7.out (Nat.le_refl _))
            have HBW7 := Lib.hid (HB.out.trans (HB7.out.mono HB.out.size))
            have hwr := Nat.le_trans HB.out.size HB7.out.size
            clear HO HB7 KC
            go_wp2_with fail
            go_region_held3 (fun w' => w'.cell? ⟨b1, o1 + j, none⟩ = some (.int .i64 y)) (first | go_keep | exact g7 | exact KW.out _ (by assumption)) (first
              | (go_at_call 36; refine (HWI.out _).mono ?_; rintro e w8 ⟨rfl, hb8⟩; have hb9 := (below_draws (Below.refl w7.heap.size w7) 1).trans hb8; have hbw := HBW7.out.trans (hb9.mono hwr); have hc9 := KW.out _ hbw; obtain ⟨q1, q2, q3, q4, q5, q6⟩ := push_bits (w := w8) y (kw : Int) (own_under HO7.out hb9 (Nat.le_refl _)) (HBW7.out.trans (hb9.mono hwr)) (Nat.le_trans hwr hb9.size) (by omega))
              | (refine step_push (o := ⟨some 82, _, _, _, _, _⟩) rfl (.tmp 73) (.tmp 81) 48 rfl wc.heap.size 53 (.agg #[.int .i64 0, .int .i64 0]) 2 16 Tryd.underlying48 info_bits rfl (by decide) A3 (2 + j) c3 (pairs ([(id, 8), (0, 10)] ++ pairsOf (M.take j) (L.take j))) rfl q2 ⟨w8.heap.size, 0, none⟩ 1 1 [.int .i64 y, .int .i64 (kw : Int)] rfl q1 q3 q4 q5 ?_; intro A9 c9 w9 ho9 hg9; have hb10 := below_own q6.out q5.out.2.2 q2.out (Nat.le_refl _) rfl hg9.out; have hc10 := KW.out w9 hb10))
            have HB10 := Lib.hid hb10
            have ho10 := ho9.out
            have HFR : Hid (w9.ownsRow wc.heap.size 53 2 (.slice A9 (2 + (j + 1)) c9) (2 + (j + 1)) (pairs ([(id, 8), (0, 10)] ++ pairsOf (M.take (j + 1)) (L.take (j + 1))))) := Lib.hid (by
              rw [HPT.out, ← List.append_assoc]
              have e : pairs (([(id, (8 : Int)), (0, 10)] ++ pairsOf (M.take j) (L.take j)) ++ [(y, (kw : Int))]) = pairs ([(id, (8 : Int)), (0, 10)] ++ pairsOf (M.take j) (L.take j)) ++ [.int .i64 y, .int .i64 (kw : Int)] := by simp [pairs]
              rw [e]
              exact ho10)
            clear ho10 ho9 hg9 q1 q2 q3 q4 q5 q6 hb8 hb9 hb10 hc9 hc10 hbw g7 HO7 HBW7
            go_wp2
            go_roundw
            case rel => exact ⟨j + 1, A9, c9, by omega, by go_num, rfl, HMT.out, HFR.out, HB10.out⟩
            case measure => simp [intOf]; omega
        · obtain rfl : j = L.length := by omega
          rw [List.take_length] at HMY HO
          have hML : M.length ≤ L.length := by rw [HKK.out]; exact Nat.le_refl _
          rw [List.take_of_length_le hML] at HMY HO
          have HE5 : Hid _ := Lib.hid (by have h := HE4.out; rw [if_neg (by rw [HMY.out]; decide)] at h; exact h)
          obtain ⟨H0, hH0⟩ : ∃ H0, [(id, (8 : Int)), (0, 10)] ++ pairsOf M L = H0 := ⟨_, rfl⟩
          rw [hH0] at HO
          have HH0 := Lib.hid hH0
          have hPl := plain_len l
          rw [(HL.out w (Below.refl _ _)).len] at hPl
          have HPA := Lib.hid (fun j (h : j < l.length) => mplain_at l j h)
          have HPP : (msgOf id t a o V l).P = pkPlain l := rfl
          rw [HPP] at HE5
          have HPQ := Lib.hid HPP
          have HIDS : Hid (pkIds l = (pkPlain l).map Prod.fst) := Lib.hid (by simp [pkIds, pkPlain])
          generalize pkPlain l = P at *
          clear hH0 HE4 HS5 HN5 hML HPP
          obtain ⟨w6, hw6⟩ : ∃ w6, wr = w6 := ⟨_, rfl⟩
          rw [hw6] at HO HB ⊢
          clear hw6
          have hwc := HB.out.size
          go_wp2
          go_loopw [9, 13] (fun v i wr => ∃ (j : Nat) (A4 : Option Addr) (c4 N : Nat), j ≤ m ∧ i = .int .i64 (j : Nat) ∧ v = .slice A4 N c4 ∧ (∀ p ∈ P.take j, (itemsF p.1 p.2).2 = 0) ∧ N ≤ 100 + 8184 * j ∧ wr.ownsRow wc.heap.size 53 2 (.slice A4 N c4) N (pairs (H0 ++ flatJ P j)) ∧ Below wc.heap.size wc wr) (fun _ i _ => m - (intOf i).toNat)
          case atStart => exact ⟨0, A3, c3, 2 + L.length, by omega, rfl, rfl, fun p h => by simp at h, by omega, by simpa [flatJ] using HO.out, HB.out⟩
          case round =>
            clear HO HB hwc
            obtain ⟨j, A4, c4, N, hj, rfl, rfl, hok, hNN, ho, hb⟩ := hrel
            have HO := Lib.hid ho; have HB := Lib.hid hb; have HOK := Lib.hid hok
            have hwc := hb.size
            clear ho hb hok
            have k5 : wr.cell? ⟨w.heap.size, 5, none⟩ = some (.slice B m d) := by rw [(HM.out wr (HB5.out.trans (HB.out.mono HB5.out.size))).cell]; rfl
            by_cases hlt : j < m
            · have hjl : j < l.length := by rw [(HL.out w (Below.refl _ _)).len]; exact hlt
              have hbw : Below w.heap.size w wr := HBG.out.trans (HB.out.mono HBG.out.size)
              obtain ⟨b0, o0, rfl, f0, f1⟩ := (HL.out wr hbw).at_ hjl
              have e1 := (HL.out wr hbw).each l[j] (List.getElem_mem hjl)
              have hn1 := HPK.out l[j] (List.getElem_mem hjl)
              have r1 := HPA.out j hjl
              generalize l[j] = X at *
              obtain ⟨xi, xA, xn, xc, xV⟩ := X
              simp only at f0 f1 e1 hn1 r1
              have hit := items_any xi xA xn xc xV wr e1 (by omega)
              have hl2 := items_len2 xi xV
              have HST := Lib.hid (flat_step r1)
              have HFI := Lib.hid (fun he => packs_first P j (xi, xV) HOK.out r1 he)
              simp only at HFI HST
              unfold pkV at hit
              obtain ⟨⟨O, ee⟩, hT⟩ : ∃ T, itemsF xi xV = T := ⟨_, rfl⟩
              have hok2 : ee = 0 → ∀ p ∈ P.take (j + 1), (itemsF p.1 p.2).2 = 0 := fun he p hp => by
                obtain ⟨h1, h2⟩ := List.getElem?_eq_some_iff.1 r1
                rw [List.take_succ_eq_append_getElem h1, List.mem_append, List.mem_singleton, h2] at hp
                rcases hp with hp | rfl
                · exact HOK.out p hp
                · simp only; rw [hT]; exact he
              rw [hT] at hit hl2 HFI HST
              have HIT := Lib.hid hit; have HOK2 := Lib.hid hok2
              clear hit hT hok2 r1 e1 hn1 HOK
              simp only at HIT HFI HST hl2
              have x0 : (0 : Int) ≤ j := by omega
              have x1 : (j : Int) < m := by omega
              clear hjl hbw
              go_wp2_with fail
              refine HIT.out.mono ?_
              rintro e w7 ⟨A7, m7, c7, rfl, hs7, hb7⟩
              have HS7 := Lib.hid hs7
              have HB7 := Lib.hid (HB.out.trans (hb7.mono hwc))
              have HO7 := Lib.hid (own_under HO.out hb7 (Nat.le_refl _))
              have hw7 := Nat.le_trans hwc hb7.size
              clear hs7 hb7 HO HIT HB
              by_cases he : ee = 0
              · subst he
                have hm7 : m7 ≤ 8184 := by have := HS7.out.len; omega
                have HSL7 : Hid (Sl w7 2 A7 m7 c7 (pairs O)) := Lib.hid HS7.out.sl
                have HON := Lib.hid (pairs_one O)
                have HBD : Hid (N + m7 ≤ maxLen ∧ (N + m7) * 16 ≤ 140737488355328 ∧ wc.heap.size ≤ w7.heap.size) := ⟨by unfold maxLen; omega, by omega, hw7⟩
                go_wp2_with (with_reducible refine wpList_pour (o := ⟨some 104, _, _, _, _, _⟩) rfl (.tmp 102) (.tmp 103) 48 rfl wc.heap.size 53 (.agg #[.int .i64 0, .int .i64 0]) 2 16 Tryd.underlying48 info_bits ?hz (by decide) A4 N c4 (pairs (H0 ++ flatJ P j)) ?hs HO7 A7 m7 c7 (pairs O) ?hx HSL7 HON HBD ?next)
                case hz => rfl
                case hs => rfl
                case hx => rfl
                case next =>
                  intro A8 c8 w8 ho8 hg8
                  have HB8 := Lib.hid (below_own HB7.out hw7 HO7.out (Nat.le_refl _) rfl hg8.out)
                  have HFR : Hid (w8.ownsRow wc.heap.size 53 2 (.slice A8 (N + m7) c8) (N + m7) (pairs (H0 ++ flatJ P (j + 1)))) := Lib.hid (by
                    rw [HST.out, ← List.append_assoc, pairs_app]
                    exact ho8.out)
                  clear ho8 hg8 HO7 HB7
                  go_wp2
                  go_roundw
                  case rel => exact ⟨j + 1, A8, c8, N + m7, by omega, by go_num, rfl, HOK2.out trivial, by omega, HFR.out, HB8.out⟩
                  case measure => simp [intOf]; omega
              · have hEE : E = ([], ee) := by
                  have h := HE5.out
                  rw [HFI.out he, if_pos he] at h
                  exact h.symm
                subst hEE
                have e2 : (ee != 0) = true := by simp [he]
                have e3 : (ee == 0) = false := by simp [he]
                have HBF := Lib.hid (HBG.out.trans (HB7.out.mono HBG.out.size))
                clear he
                go_wp2
                go_ret2
                exact bytes_none0 HBF.out ee
            · obtain rfl : j = m := by omega
              have hPt : P.take j = P := List.take_of_length_le (by omega)
              have hok := HOK.out
              rw [hPt] at hok
              have hpa := packs_all P hok
              obtain ⟨O, hO⟩ : ∃ O, flatJ P j = O := ⟨_, rfl⟩
              have hO2 : packsF P = (O, 0) := by rw [hpa, ← hO, flatJ, hPt]
              rw [hO] at HO
              have hall : ∀ k, allP (msgOf id t a o V l) k = (id, 8) :: (k, 10) :: (pairsOf M L ++ O) := fun k => by
                unfold allP
                rw [HPQ.out, hO2, HLV.out, show (msgOf id t a o V l).id = id from rfl, HMM.out]
              have hH : H0 ++ O = allP (msgOf id t a o V l) 0 := by rw [hall, ← HH0.out]; rfl
              rw [hH] at HO
              have hmys : maysOf (mvars (msgOf id t a o V l).id) (mvals (msgOf id t a o V l)) = true := by rw [HLV.out, show (msgOf id t a o V l).id = id from rfl, HMM.out]; exact HMY.out
              have hkk : mknown (msgOf id t a o V l).id = true := HK.out
              have HAF := Lib.hid (fun k h0 h1 => all_fit (n := k) hkk hmys h0 h1)
              have hlen0 := all_len hkk hmys (Int.le_refl 0) (by omega)
              have hpos := all_pos hkk hmys
              have hNl : (allP (msgOf id t a o V l) 0).length = N := by have := HO.out.1; rw [pairs_length] at this; omega
              have hle32 := laid_le (allP (msgOf id t a o V l) 0) (fun x hx => (HAF.out 0 (Int.le_refl 0) (by omega) x hx).2.2.2)
              have hset : ∀ k, (allP (msgOf id t a o V l) 0).set 1 (k, 10) = allP (msgOf id t a o V l) k := fun k => by rw [hall, hall]; rfl
              have hg1 : (allP (msgOf id t a o V l) 0).getD 1 (0, 0) = (0, 10) := by rw [hall]; rfl
              have HE6 := HE5.out
              rw [hO2, if_neg (by simp)] at HE6
              have htk : ∀ k, totalOf (allP (msgOf id t a o V l) k) = totalOf (allP (msgOf id t a o V l) 0) := fun k => all_total _ _ _
              unfold bytesN at HE6
              generalize msgOf id t a o V l = X at *
              have HE7 := Lib.hid HE6
              have HSET := Lib.hid hset
              have HTK := Lib.hid htk
              have hbw : Below w.heap.size w wr := HBG.out.trans (HB.out.mono HBG.out.size)
              have hfx := HF.out B j d l wr (HL.out wr hbw) (by omega)
              rw [HFT.out, HIDS.out] at hfx
              obtain ⟨r0, r1, r2⟩ : wr.cell? ⟨g, 0, none⟩ = some (.string R.own) ∧ wr.cell? ⟨g, 1, none⟩ = some (.string R.must) ∧ wr.cell? ⟨g, 2, none⟩ = some (.string R.may) := by
                have h := HR5.out wr HB.out
                rw [h.cell, h.cell, h.cell]; exact ⟨rfl, rfl, rfl⟩
              have HFX := Lib.hid hfx
              have hNb : N ≤ 400000 := by omega
              clear hPt hok hpa hO hO2 hall hH hmys hkk HE6 hset htk hbw hfx HE5 HIDS HFT HF
              generalize fitsF id (P.map Prod.fst) = ff at *
              go_wp2_with fail
              refine HFX.out.mono ?_
              rintro e w7 ⟨rfl, hb7⟩
              have HB7 := Lib.hid (HB.out.trans (hb7.mono hwc))
              have HO7 := Lib.hid (own_under HO.out hb7 (Nat.le_refl _))
              have hw7 := Nat.le_trans hwc hb7.size
              clear hb7 HFX r0 r1 r2 k5 HO HB
              have HBF := Lib.hid (HBG.out.trans (HB7.out.mono HBG.out.size))
              cases ff
              · have hEE : E = ([], 50) := by rw [← HE7.out, if_pos rfl]
                subst hEE
                go_wp2
                go_ret2
                exact bytes_none0 HBF.out 50
              · have hto := total_any A4 N c4 (allP X 0) w7 ⟨hNl, Sl.of_own HO7.out⟩ (by omega) (fun x hx => by have := HAF.out 0 (Int.le_refl 0) (by omega) x hx; exact ⟨by have := this.2.2.1; omega, by have := this.2.2.2; omega⟩)
                obtain ⟨T, hT⟩ : ∃ T : Nat, totalOf (allP X 0) = T := ⟨(totalOf (allP X 0)).toNat, by omega⟩
                rw [hT] at hto hlen0 hpos
                have HTO := Lib.hid hto
                have HTE := Lib.hid hT
                have hTb : T ≤ 40000000 := by omega
                have HE8 : Hid ((if 1023 < ((T : Int) + 7) / 8 then (([], 2) : List Nat × Int) else (bytesOf (laidOf (allP X (((T : Int) + 7) / 8))), 0)) = E) := Lib.hid (by have h := HE7.out; rw [if_neg (by decide), hT] at h; exact h)
                clear hto hT HE7
                go_wp2_with fail
                refine HTO.out.mono ?_
                rintro e w8 ⟨rfl, rfl⟩
                clear HTO
                obtain ⟨ww, hww⟩ : ∃ ww, ww = wc := ⟨_, rfl⟩
                subst hww
                go_upto_if 117 with fail
                go_cut [18] (fun s wx => s = .int .i64 (((T + 7) / 8 : Nat) : Int) ∧ wx = w7)
                case first =>
                  by_cases h8 : T % 8 = 0
                  · have y0 : ¬ (0 : Int) < (T : Int) % 8 := by omega
                    have y1 : (T : Int) / 8 = (((T + 7) / 8 : Nat) : Int) := by omega
                    go_wp2
                    go_meet
                    exact ⟨by first | rfl | (simp; omega), rfl⟩
                  · have y0 : (0 : Int) < (T : Int) % 8 := by omega
                    go_wp2
                    go_meet
                    exact ⟨by first | rfl | (simp; omega), rfl⟩
                case rest =>
                  obtain ⟨rfl, rfl⟩ := hcut
                  obtain ⟨k, hk⟩ : ∃ k, (T + 7) / 8 = k := ⟨_, rfl⟩
                  have hki : ((T : Int) + 7) / 8 = (k : Int) := by omega
                  rw [hki] at HE8
                  rw [hk]
                  by_cases hkb : 1023 < k
                  · have z0 : (1023 : Int) < k := by omega
                    have hEE : E = ([], 2) := by rw [← HE8.out, if_pos z0]
                    subst hEE
                    go_wp2
                    go_ret2
                    exact bytes_none0 HBF.out 2
                  · have z0 : ¬ (1023 : Int) < k := by omega
                    have hEE : E = (bytesOf (laidOf (allP X k)), 0) := by rw [← HE8.out, if_neg z0]
                    obtain ⟨bs, hbs⟩ : ∃ bs, laidOf (allP X k) = bs := ⟨_, rfl⟩
                    rw [hbs] at hEE
                    subst hEE
                    have hfit := HAF.out k (by omega) (by omega)
                    have hfl := fit_len _ (HAF.out 0 (Int.le_refl 0) (by omega))
                    have hN8 : N ≤ 8184 := by omega
                    have hN2 : 2 ≤ N := by rw [← hNl]; unfold allP; simp
                    have hlk := laid_total (l := allP X k) (fun x hx => (hfit x hx).2.2.1)
                    rw [HTK.out, HTE.out, hbs] at hlk
                    have hT8 : bs.length ≤ 8184 := by omega
                    obtain ⟨go, capo, hvo, hgo1, hgo2⟩ := HO7.out.form (by omega)
                    injection hvo with hvo1 _ hvo2
                    subst hvo1
                    subst hvo2
                    have hoo := HO7.out
                    have hca : wc.cell? ⟨go, 2, none⟩ = some (.int .i64 0) := by
                      rw [hoo.cellAt 2 (by omega)]
                      have h := (pairs_at (allP X 0) 1 (by omega)).1
                      rw [hg1] at h
                      exact h
                    have hfa : wc.frozen? ⟨go, 2, none⟩ = false := hoo.frozenAt 2
                    have hst := hoo.stored 2 (.int .i64 k)
                    have hse : (pairs (allP X 0)).set 2 (.int .i64 k) = pairs (allP X k) := by
                      have h := pairs_set (allP X 0) 1 k
                      rw [hg1] at h
                      rw [← HSET.out]
                      exact h
                    rw [hse] at hst
                    have hBS := below_own HB7.out hw7 hoo (Nat.le_refl _) rfl hst.2
                    have hxl : (allP X k).length = N := by rw [← HSET.out, List.length_set, hNl]
                    have hla := laid_any (some ⟨go, 0, none⟩) N c4 (allP X k) _ ⟨hxl, Sl.of_own hst.1⟩ (by omega) hfit
                    rw [hbs] at hla
                    have HLA := Lib.hid hla
                    have HBS := Lib.hid (HBG.out.trans (hBS.mono HBG.out.size))
                    have z1 : (1 : Int) < N := by omega
                    clear hla hbs hst hse hBS hoo hxl HO7 HB7 HSET HTK HTE HAF hfl hlen0 hpos hle32 hNl hg1 HE8 hk hki hgo1 hgo2
                    go_wp2_with fail
                    refine HLA.out.mono ?_
                    rintro e w9 ⟨A9, c9, rfl, ho9, hb9⟩
                    have HRB := Lib.hid (refBytes_any A9 bs.length c9 bs w9 ⟨rfl, Sl.of_own ho9⟩ (by omega))
                    have HB9 := Lib.hid (HBS.out.trans (hb9.mono HBS.out.size))
                    clear ho9 hb9 HLA HBS
                    go_wp2_with fail
                    refine HRB.out.mono ?_
                    rintro e w10 ⟨A10, c10, rfl, ho10, hb10⟩
                    have HBX := Lib.hid (HB9.out.trans (hb10.mono HB9.out.size))
                    have HO10 := Lib.hid ho10
                    clear ho10 hb10 HRB HB9
                    go_wp2
                    go_ret2
                    refine ⟨A10, c10, ?_, ?_, ?_, HBX.out⟩
                    · rw [bytesOf_length]; rfl
                    · exact at8_own HO10.out (by rw [bytesOf_length])
                    · rw [bytesOf_length]; exact own_cap6 HO10.out
end Go.Proofs.YtamnhnleipnhdaaDoor
