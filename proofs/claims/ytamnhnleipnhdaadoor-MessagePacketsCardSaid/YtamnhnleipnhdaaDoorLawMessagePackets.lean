/-
  linesidelaw06.MessagePackets, walked.
-/
import Derived.Test.YtamnhnleipnhdaaDoorLawMessageSides

namespace Go.Proofs.YtamnhnleipnhdaaDoor

open Go.RowKit

open BitsM

theorem pkCells_set : ∀ (l : List PkE) (i : Nat) (x : PkE), pkCells (l.set i x) = ((pkCells l).set (i * 2) (.int .i64 x.id)).set (i * 2 + 1) (.slice x.A x.n x.c)
  | [], i, x => rfl
  | p :: l, 0, x => rfl
  | p :: l, i + 1, x => by
    rw [show (i + 1) * 2 = i * 2 + 1 + 1 by omega]
    show Value.int .i64 p.id :: Value.slice p.A p.n p.c :: pkCells (l.set i x) = _
    rw [pkCells_set l i x]
    rfl
/-- A packet put into an own slice. -/
theorem own_put {base : Nat} {w : World} {gv m c : Nat} {l : List PkE} (h : w.ownsRow base 39 2 (.slice (some ⟨gv, 0, none⟩) m c) m (pkCells l)) (hl : l.length = m) {i : Nat} (hi : i < m) (x : PkE) :
    (∃ u0 u1, w.cell? ⟨gv, i * 2, none⟩ = some u0 ∧ w.frozen? ⟨gv, i * 2, none⟩ = false ∧ w.cell? ⟨gv, i * 2 + 1, none⟩ = some u1 ∧ w.frozen? ⟨gv, i * 2 + 1, none⟩ = false ∧
      (w.setCell ⟨gv, i * 2, none⟩ (.int .i64 x.id)).cell? ⟨gv, i * 2 + 1, none⟩ = some u1 ∧ (w.setCell ⟨gv, i * 2, none⟩ (.int .i64 x.id)).frozen? ⟨gv, i * 2 + 1, none⟩ = false) ∧
    ((w.setCell ⟨gv, i * 2, none⟩ (.int .i64 x.id)).setCell ⟨gv, i * 2 + 1, none⟩ (.slice x.A x.n x.c)).ownsRow base 39 2 (.slice (some ⟨gv, 0, none⟩) m c) m (pkCells (l.set i x)) ∧
    w.grownBy ((w.setCell ⟨gv, i * 2, none⟩ (.int .i64 x.id)).setCell ⟨gv, i * 2 + 1, none⟩ (.slice x.A x.n x.c)) (some gv) := by
  have h1 := h.stored (i * 2) (.int .i64 x.id)
  have h2 := h1.1.stored (i * 2 + 1) (.slice x.A x.n x.c)
  obtain ⟨c0, c1⟩ := pkCells_at l i (by omega)
  have e1 : ((pkCells l).set (i * 2) (.int .i64 x.id))[i * 2 + 1]? = some (.slice l[i].A l[i].n l[i].c) := by
    rw [List.getElem?_set_ne (by omega)]; exact c1
  refine ⟨⟨_, _, by rw [h.cellAt _ (by omega)]; exact c0, h.frozenAt _, by rw [h.cellAt _ (by omega)]; exact c1, h.frozenAt _, by rw [h1.1.cellAt _ (by omega)]; exact e1, h1.1.frozenAt _⟩, ?_, ?_⟩
  · rw [pkCells_set]; exact h2.1
  · exact only_store (only_store (only_refl w (some gv)) (p := ⟨gv, i * 2, none⟩) rfl _) (p := ⟨gv, i * 2 + 1, none⟩) rfl _
/-- Two packets behind the first change places; one stands twice. -/
theorem swap_enc {id t a o : Int} {V : List Int} {l : List PkE} {i j : Nat} (hi0 : 1 ≤ i) (hj0 : 1 ≤ j) (hi : i < l.length) (hj : j < l.length) :
    ((encF (msgOf id t a o V l)).2 = 0 ↔ (encF (msgOf id t a o V ((l.set i l[j]).set j l[i]))).2 = 0) ∧ (encF (msgOf id t a o V (((l.set i l[j]).set j l[i]) ++ [l[i]]))).2 ≠ 0 ∧ (∀ p ∈ (l.set i l[j]).set j l[i], p ∈ l) := by
  match l, i, j, hi0, hj0 with
  | x :: r, i + 1, j + 1, _, _ =>
    simp only [List.length_cons] at hi hj
    have hi : i < r.length := by omega
    have hj : j < r.length := by omega
    simp only [List.getElem_cons_succ, List.set_cons_succ]
    have hp : ((r.set i r[j]).set j r[i]).Perm r := List.set_set_perm hi hj
    have hq : (pkPlain ((r.set i r[j]).set j r[i])).Perm (pkPlain r) := hp.map _
    refine ⟨⟨fun h => enc_perm (m := msgOf id t a o V (x :: r)) (x := (x.id, x.V)) hq.symm rfl h, fun h => enc_perm (m := msgOf id t a o V (x :: (r.set i r[j]).set j r[i])) (x := (x.id, x.V)) hq rfl h⟩, ?_, fun p hpm => ?_⟩
    · have h := enc_twice (m := msgOf id t a o V (x :: r)) (x := (x.id, x.V)) (y := (r[i].id, r[i].V)) (a := pkPlain ((r.set i r[j]).set j r[i])) (hq.mem_iff.2 (List.mem_map.2 ⟨r[i], List.getElem_mem hi, rfl⟩))
      have e : msgOf id t a o V (x :: (r.set i r[j]).set j r[i] ++ [r[i]]) = { msgOf id t a o V (x :: r) with P := (x.id, x.V) :: (pkPlain ((r.set i r[j]).set j r[i]) ++ [(r[i].id, r[i].V)]) } := by
        simp [msgOf, pkPlain]
      rw [e]; exact h
    · rcases List.mem_cons.1 hpm with h | h
      · exact h ▸ List.mem_cons_self
      · exact List.mem_cons_of_mem _ (hp.mem_iff.1 h)
theorem pks_one (l : List PkE) : ∀ u ∈ pkCells l, u.oneCell' = true := by
  intro u hu
  simp only [pkCells, List.mem_flatMap] at hu
  obtain ⟨p, _, hp⟩ := hu
  simp at hp
  rcases hp with rfl | rfl <;> rfl
theorem slk_own {base : Nat} {w : World} {A : Option Addr} {m c : Nat} {l l' : List PkE} {B : Option Addr} {m' d : Nat} (h : w.ownsRow base 39 2 (.slice A m c) m (pkCells l')) (hl : l'.length = m) (hk : SlK w B m' d l) (hs : ∀ p ∈ l', p ∈ l) : SlK w A m c l' :=
  ⟨hl, own_cap6 h, Sl.of_own h, fun p hp => hk.each p (hs p hp)⟩
theorem below_draw6 {B : Nat} {a w : World} (h : Below B a w) : Below B a w.drew := ⟨h.os, h.tape, h.output, h.size, h.block⟩
theorem own_draw6 {w : World} {base : Nat} {e : TypeId} {size n : Nat} {v : Value} {xs : List Value} (h : w.ownsRow base e size v n xs) : w.drew.ownsRow base e size v n xs := h
set_option maxRecDepth 100000 in
set_option maxHeartbeats 8000000 in
theorem messagePackets_walk (id t a o : Int) (A : Option Addr) (n c : Nat) (B : Option Addr) (m d : Nat) (V : List Int) (l : List PkE) (p q : Int) (w : World) (hV : SlI w.heap.size w A n c V) (hl : SlK w B m d l) (_hp : (Lit.int .i64 p).wf = true) (_hq : (Lit.int .i64 q).wf = true) (hwd : Wd w) :
    Calls Tryd.prog 8 #[msgV id t a o A n c B m d, .int .i64 p, .int .i64 q] w fun e w' => e = .returned (.bool true) ∧ Below w.heap.size w w' := by
  obtain ⟨wa, hwa, hba, hsz, hcl, hin⟩ := msg_open id t a o A n c B m d V l w hV hl hwd
  have hhw : wa.heap.size = w.heap.size + 1 := by rw [← hwa]; simp
  have HA0 := Lib.hid (awake_any wa (hin wa (Below.refl _ _)).2.2)
  have HBA := Lib.hid hba
  have HCL := Lib.hid hcl; have HIN := Lib.hid hin
  obtain ⟨T, hT⟩ : ∃ T, lightF n m l = T := ⟨_, rfl⟩
  have HLI := Lib.hid (fun W (hW : Below wa.heap.size wa W) => light_any id t a o A n c B m d l W (hin W hW).2.1)
  rw [hT] at HLI
  have HT := Lib.hid hT
  clear hV hl hwd hba hcl hin hT
  unfold msgV msgCells at *
  go_enter Tryd.func8, Tryd.ntmps8
  go_wp2_with fail
  clear hwa
  refine HA0.out.mono ?_
  rintro e w1 ⟨rfl, hb1⟩
  obtain ⟨q0, q1, q2, q3, q4, q5⟩ := HCL.out w1 hb1
  have HB1 := Lib.hid hb1
  have HL1 := Lib.hid (HLI.out w1 hb1)
  clear hb1 HA0 HLI
  go_wp2_with fail
  refine HL1.out.mono ?_
  rintro e w2 ⟨rfl, hb2⟩
  have hbw2 := HB1.out.trans (hb2.mono HB1.out.size)
  have HB2 := Lib.hid hbw2
  clear hb2 hbw2 q0 q1 q2 q3 q4 q5 HL1 HB1
  have HBe := Lib.hid (HBA.out.trans (HB2.out.mono HBA.out.size))
  obtain ⟨q0, q1, q2, q3, q4, q5⟩ := HCL.out w2 HB2.out
  cases T with
  | false =>
    go_wp2_with fail
    go_quiet (fail)
    go_wp2
    go_ret
    exact ⟨rfl, below_draws HBe.out _⟩
  | true =>
    obtain ⟨hn, hm, hpn⟩ := light_in HT.out
    by_cases hp1 : p < 1
    · go_wp2_with fail
      go_quiet (fail)
      go_wp2
      go_ret
      exact ⟨rfl, below_draws HBe.out _⟩
    have d1 : decide (p < 1) = false := by simp [hp1]
    by_cases hq1 : q < 1
    · go_wp2_with fail
      go_quiet (fail)
      go_wp2
      go_ret
      exact ⟨rfl, below_draws HBe.out _⟩
    obtain ⟨i, rfl⟩ : ∃ i : Nat, p = i := ⟨p.toNat, by omega⟩
    obtain ⟨j, rfl⟩ : ∃ j : Nat, q = j := ⟨q.toNat, by omega⟩
    have d2 : decide ((j : Int) < 1) = false := by simp [hq1]
    have n1 : decide (i < 1) = false := by simp; omega
    have n2 : decide (j < 1) = false := by simp; omega
    have n3 : decide (i = 0) = false := by simp; omega
    have n4 : decide (j = 0) = false := by simp; omega
    by_cases him : i < m
    case neg =>
      have x1 : (m : Int) ≤ (i : Int) := by omega
      have x1n : m ≤ i := by omega
      go_wp2_with fail
      go_quiet (fail)
      go_wp2
      go_ret
      exact ⟨rfl, below_draws HBe.out _⟩
    by_cases hjm : j < m
    case neg =>
      have x1 : (m : Int) ≤ (j : Int) := by omega
      have x1n : m ≤ j := by omega
      have x2 : decide ((m : Int) ≤ (i : Int)) = false := by simp; omega
      have x2n : decide (m ≤ i) = false := by simp; omega
      go_wp2_with fail
      go_quiet (fail)
      go_wp2
      go_ret
      exact ⟨rfl, below_draws HBe.out _⟩
    have x1 : decide ((m : Int) ≤ (j : Int)) = false := by simp; omega
    have x2 : decide ((m : Int) ≤ (i : Int)) = false := by simp; omega
    have x1n : decide (m ≤ j) = false := by simp; omega
    have x2n : decide (m ≤ i) = false := by simp; omega
    have x3 : (i : Int) < (m : Int) := by omega
    have x4 : (j : Int) < (m : Int) := by omega
    have x5 : (0 : Int) ≤ (i : Int) := by omega
    have x6 : (0 : Int) ≤ (j : Int) := by omega
    have x7 : (0 : Int) < (m : Int) := by omega
    have x8 : 0 < m := by omega
    obtain ⟨_, hk2, _⟩ := HIN.out w2 HB2.out
    have hlen := hk2.len
    have hil : i < l.length := by omega
    have hjl : j < l.length := by omega
    have h0l : 0 < l.length := by omega
    obtain ⟨b0, o0, hB0, c00, hc0x⟩ := hk2.at_ h0l
    subst hB0
    obtain ⟨b1, o1, e1, ci0, ci1⟩ := hk2.at_ hil
    injection e1 with e1; injection e1 with e1 e2; subst e1; subst e2
    obtain ⟨b2, o2, e1, cj0, cj1⟩ := hk2.at_ hjl
    injection e1 with e1; injection e1 with e1 e2; subst e1; subst e2
    clear hc0x
    have c00 : w2.cell? ⟨b0, o0, none⟩ = some (.int .i64 l[0].id) := by simpa using c00
    obtain ⟨sw1, sw2, sw3⟩ := swap_enc (id := id) (t := t) (a := a) (o := o) (V := V) (l := l) (i := i) (j := j) (by omega) (by omega) hil hjl
    obtain ⟨xi, hxi⟩ : ∃ xi, l[i] = xi := ⟨_, rfl⟩
    obtain ⟨xj, hxj⟩ : ∃ xj, l[j] = xj := ⟨_, rfl⟩
    have hxil : xi ∈ l := hxi ▸ List.getElem_mem hil
    have hxjl : xj ∈ l := hxj ▸ List.getElem_mem hjl
    rw [hxi] at sw1 sw2 sw3 ci0 ci1
    rw [hxj] at sw1 sw2 sw3 cj0 cj1
    generalize l[0].id = z0 at *
    have HCI := Lib.hid (fun W (hW : Below w2.heap.size w2 W) => And.intro ((hW.cell (p := ⟨b0, o0 + i * 2, none⟩) (cell_block ci0)).trans ci0) (And.intro ((hW.cell (p := ⟨b0, o0 + i * 2 + 1, none⟩) (cell_block ci1)).trans ci1) (And.intro ((hW.cell (p := ⟨b0, o0 + j * 2, none⟩) (cell_block cj0)).trans cj0) ((hW.cell (p := ⟨b0, o0 + j * 2 + 1, none⟩) (cell_block cj1)).trans cj1))))
    have HSW1 := Lib.hid sw1; have HSW2 := Lib.hid sw2; have HSW3 := Lib.hid sw3; have HPN := Lib.hid hpn; have HXI := Lib.hid hxil; have HXJ := Lib.hid hxjl
    clear sw1 sw2 sw3 hpn hxi hxj hxil hxjl hk2 h0l hil hjl HT
    by_cases hzi : z0 = xi.id
    case pos =>
      have x9 : (z0 == xi.id) = true := by simp [hzi]
      have x10 : decide (z0 = xi.id) = true := by simp [hzi]
      clear hzi
      go_wp2_with fail
      go_quiet (fail)
      go_wp2
      go_ret
      exact ⟨rfl, below_draws HBe.out _⟩
    have x9 : (z0 == xi.id) = false := by simp [hzi]
    have x10 : decide (z0 = xi.id) = false := by simp [hzi]
    by_cases hzj : z0 = xj.id
    case pos =>
      have x11 : (z0 == xj.id) = true := by simp [hzj]
      have x12 : decide (z0 = xj.id) = true := by simp [hzj]
      clear hzj hzi
      go_wp2_with fail
      go_quiet (fail)
      go_wp2
      go_ret
      exact ⟨rfl, below_draws HBe.out _⟩
    have x11 : (z0 == xj.id) = false := by simp [hzj]
    have x12 : decide (z0 = xj.id) = false := by simp [hzj]
    clear hzi hzj
    go_wp2_with fail
    go_quiet (fail)
    have HBQ := Lib.hid (below_draws HB2.out nq)
    have HB2Q := Lib.hid (below_draws (Below.refl w2.heap.size w2) nq)
    clear q0 q1 q2 q3 q4 q5 ci0 ci1 cj0 cj1 c00 x9 x10 x11 x12 HBe
    generalize w2.drewN nq = wq at *
    obtain ⟨q0, q1, q2, q3, q4, q5⟩ := HCL.out wq HBQ.out
    obtain ⟨hvq, hkq, hwq⟩ := HIN.out wq HBQ.out
    have HC1 := Lib.hid (omg_encode id t a o A n c _ m d V l wq hvq hkq (by omega) (by omega) (fun p hp => by have := HPN.out p hp; omega) hwq)
    unfold Bytes0 msgV msgCells at HC1
    obtain ⟨E1, hE1⟩ : ∃ E, encF (msgOf id t a o V l) = E := ⟨_, rfl⟩
    rw [hE1] at HC1 HSW1
    clear hE1 hvq hkq hwq
    go_wp2_with fail
    refine HC1.out.mono ?_
    rintro e w3 ⟨A3, c3, rfl, _, _, hb3⟩
    have HB3 := Lib.hid (HBQ.out.trans (hb3.mono HBQ.out.size))
    have HB23 := Lib.hid (HB2Q.out.trans (hb3.mono HB2Q.out.size))
    obtain ⟨es1, ec1⟩ := E1
    clear hb3 HC1 q0 q1 q2 q3 q4 q5 HBQ HB2Q
    obtain ⟨q0, q1, q2, q3, q4, q5⟩ := HCL.out w3 HB3.out
    obtain ⟨w4, hw4⟩ : ∃ w4, w3.alloc (.cells #[.int .i64 id, .int .i64 t, .int .i64 a, .int .i64 o, .slice A n c, .slice (some ⟨b0, o0, none⟩) m d] 25) = w4 := ⟨_, rfl⟩
    have hb34 : Below w3.heap.size w3 w4 := by rw [← hw4]; exact (Below.refl _ _).alloc (Nat.le_refl _) _
    have hm4 : Has w4 w3.heap.size 25 #[.int .i64 id, .int .i64 t, .int .i64 a, .int .i64 o, .slice A n c, .slice (some ⟨b0, o0, none⟩) m d] := by rw [← hw4]; exact Has.made _ _ _
    have HB4 := Lib.hid (HB3.out.trans (hb34.mono HB3.out.size))
    have HB24 := Lib.hid (HB23.out.trans (hb34.mono HB23.out.size))
    have HM4 := Lib.hid hm4
    have HSB := Lib.hid (HIN.out w4 HB4.out).2.1.sl
    have HO0 : Hid (w4.ownsRow w4.heap.size 39 2 (.slice none 0 0) 0 []) := Lib.hid (World.ownsRow_nil w4 _ 39 2)
    have H1A := Lib.hid (pks_one l)
    have HD0 : Hid (0 + m ≤ maxLen ∧ (0 + m) * 32 ≤ 140737488355328 ∧ w4.heap.size ≤ w4.heap.size) := ⟨by unfold maxLen; omega, by omega, Nat.le_refl _⟩
    have UPA := Lib.hid (fun W (hW : Below w3.heap.size w3 W) => HB3.out.trans (hW.mono HB3.out.size))
    have UP2 := Lib.hid (fun W (hW : Below w3.heap.size w3 W) => HB23.out.trans (hW.mono HB23.out.size))
    have HC3 := Lib.hid (fun W (hW : Below w3.heap.size w3 W) => HCL.out W (UPA.out W hW))
    have HI3 := Lib.hid (fun W (hW : Below w3.heap.size w3 W) => HIN.out W (UPA.out W hW))
    have HX3 := Lib.hid (fun W (hW : Below w3.heap.size w3 W) => HCI.out W (UP2.out W hW))
    obtain ⟨k0, k1, k2, k3, k4, k5⟩ := HCL.out w4 HB4.out
    have HB34 := Lib.hid hb34
    have HS34 := Lib.hid (show w3.heap.size ≤ w4.heap.size from hb34.size)
    have HS34X := Lib.hid (show w3.heap.size ≤ w4.heap.size from hb34.size)
    clear hb34 hm4 HB3 HB23 HB4 HB24 HCL HIN HCI UP2
    go_wp2_with (with_reducible refine wpList_pour (o := ⟨some 84, _, _, _, _, _⟩) rfl (.const (.slice none 0 0)) (.tmp 83) 23 rfl w4.heap.size 39 (.agg #[.int .i64 0, .slice none 0 0]) 2 32 Tryd.underlying23 info_pkt ?hz (by decide) none 0 0 [] ?hs HO0 (some ⟨b0, o0, none⟩) m d (pkCells l) ?hx HSB H1A HD0 ?next)
    case hz => rfl
    case hs => rfl
    case hx => rfl
    case next =>
      intro A7 c7 w7 ho7 hg7
      have ho7' : w7.ownsRow w4.heap.size 39 2 (.slice A7 m c7) m (pkCells l) := by simpa using ho7.out
      have hb47 := below_own (Below.refl w4.heap.size w4) (Nat.le_refl _) HO0.out (Nat.le_refl _) rfl hg7.out
      obtain ⟨gv, cap, hvo, hgb, _⟩ := ho7'.form (by omega)
      injection hvo with hvo1 _ hvo2
      subst hvo1
      subst hvo2
      have HB7 := Lib.hid (HB34.out.trans (hb47.mono HB34.out.size))
      have HM7 := Lib.hid (HM4.out.under hb47 HM4.out.lt)
      have HO7 := Lib.hid ho7'
      have HGV := Lib.hid (show w3.heap.size ≤ gv from Nat.le_trans HS34.out hgb)
      clear k0 k1 k2 k3 k4 k5
      have r5 : w7.cell? ⟨w3.heap.size, 5, none⟩ = some (.slice (some ⟨b0, o0, none⟩) m d) := HM7.out.cell 5
      have rf5 : w7.frozen? ⟨w3.heap.size, 5, none⟩ = false := HM7.out.thaw 5
      have hm8 := HM7.out.stored 5 (.slice (some ⟨gv, 0, none⟩) m c7)
      have hg8 : w7.grownBy (w7.setCell ⟨w3.heap.size, 5, none⟩ (.slice (some ⟨gv, 0, none⟩) m c7)) (some w3.heap.size) := only_store (only_refl _ _) rfl _
      have ho8 := own_keep HO7.out hg8 (own_apart HO7.out HM7.out (by decide))
      have hb8 := below_only HB7.out hg8 HB7.out.size (Nat.le_refl _)
      obtain ⟨w8, hw8⟩ : ∃ w8, w7.setCell ⟨w3.heap.size, 5, none⟩ (.slice (some ⟨gv, 0, none⟩) m c7) = w8 := ⟨_, rfl⟩
      rw [hw8] at hm8 ho8 hb8
      have HM8 := Lib.hid hm8.draw
      have HO8 := Lib.hid (own_draw6 ho8)
      have HB8 := Lib.hid (below_draw6 hb8)
      have hb8d : Below w3.heap.size w3 w8.drew := HB8.out
      obtain ⟨⟨u0, u1, s0, s1, s2, s3, s4, s5⟩, ho9, hg9⟩ := own_put HO8.out hlen (i := i) him xj
      have hm9 := HM8.out.grow hg9 (fun e => own_apart HO8.out HM8.out (by decide) (by rw [e]; rfl))
      have hb9 := below_only HB8.out hg9 HB8.out.size HGV.out
      obtain ⟨k0, k1, k2, k3, k4, k5⟩ := HC3.out _ hb8d
      obtain ⟨ci0, ci1, cj0, cj1⟩ := HX3.out _ hb8d
      have t5 : w8.drew.cell? ⟨w3.heap.size, 5, none⟩ = some (.slice (some ⟨gv, 0, none⟩) m c7) := HM8.out.cell 5
      have HM9 := Lib.hid hm9; have HO9 := Lib.hid ho9; have HB9 := Lib.hid hb9
      clear ho7 hg7 ho7' hb47 hgb HM4 HO0 HD0 H1A HSB q0 q1 q2 q3 q4 q5 hm8 ho8 hb8 hb8d hg9 hm9 ho9 hb9 hg8 HM7 HO7 HB7 HB34 HS34
      clear hw4
      go_wp2_with fail
      clear hw8
      go_still_tail 9, (by kernel_rfl)
      change wpList _ _ _ _ _ w8.drew
      generalize w8.drew = w8d at *
      go_wp2_with fail
      clear s0 s1 s2 s3 s4 s5 k0 k1 k2 k3 k4 k5 ci0 ci1 cj0 cj1 t5 HM8 HO8 HB8 u0 u1
      generalize (w8d.setCell ⟨gv, i * 2, none⟩ (.int .i64 xj.id)).setCell ⟨gv, i * 2 + 1, none⟩ (.slice xj.A xj.n xj.c) = w9 at *
      have hln1 : (l.set i xj).length = m := by rw [List.length_set]; exact hlen
      have HMA := Lib.hid HM9.out.draw
      have HOA := Lib.hid (own_draw6 HO9.out)
      have HBA9 := Lib.hid (below_draw6 HB9.out)
      have hbAd : Below w3.heap.size w3 w9.drew := HBA9.out
      obtain ⟨⟨u0, u1, s0, s1, s2, s3, s4, s5⟩, hoB, hgB⟩ := own_put HOA.out hln1 (i := j) hjm xi
      have hmB := HMA.out.grow hgB (fun e => own_apart HOA.out HMA.out (by decide) (by rw [e]; rfl))
      have hbB := below_only HBA9.out hgB HBA9.out.size HGV.out
      obtain ⟨k0, k1, k2, k3, k4, k5⟩ := HC3.out _ hbAd
      obtain ⟨ci0, ci1, cj0, cj1⟩ := HX3.out _ hbAd
      have t5 : w9.drew.cell? ⟨w3.heap.size, 5, none⟩ = some (.slice (some ⟨gv, 0, none⟩) m c7) := HMA.out.cell 5
      have HMB := Lib.hid hmB; have HOB := Lib.hid hoB; have HBB := Lib.hid hbB
      clear hgB hmB hoB hbB hbAd HM9 HO9 HB9
      go_still_tail 9, (by kernel_rfl)
      change wpList _ _ _ _ _ w9.drew
      generalize w9.drew = w9d at *
      have hln2 : ((l.set i xj).set j xi).length = m := by rw [List.length_set]; exact hln1
      obtain ⟨l2, hl2⟩ : ∃ l2, (l.set i xj).set j xi = l2 := ⟨_, rfl⟩
      rw [hl2] at hln2 HOB HSW1 HSW2 HSW3
      obtain ⟨wB, hwB⟩ : ∃ wB, (w9d.setCell ⟨gv, j * 2, none⟩ (.int .i64 xi.id)).setCell ⟨gv, j * 2 + 1, none⟩ (.slice xi.A xi.n xi.c) = wB := ⟨_, rfl⟩
      rw [hwB] at HMB HOB HBB
      obtain ⟨hvB, hkB, hwdB⟩ := HI3.out wB HBB.out
      have HE2 := Lib.hid (omg_encode id t a o A n c (some ⟨gv, 0, none⟩) m c7 V l2 wB hvB (slk_own HOB.out hln2 hkB HSW3.out) (by omega) (by omega) (fun p hp => by have := HPN.out p (HSW3.out p hp); omega) hwdB)
      unfold Bytes0 msgV msgCells at HE2
      obtain ⟨E2, hE2⟩ : ∃ E, encF (msgOf id t a o V l2) = E := ⟨_, rfl⟩
      rw [hE2] at HE2 HSW1
      obtain ⟨es2, ec2⟩ := E2
      have v0 : wB.cell? ⟨w3.heap.size, 0, none⟩ = some (.int .i64 id) := HMB.out.cell 0
      have v1 : wB.cell? ⟨w3.heap.size, 1, none⟩ = some (.int .i64 t) := HMB.out.cell 1
      have v2 : wB.cell? ⟨w3.heap.size, 2, none⟩ = some (.int .i64 a) := HMB.out.cell 2
      have v3 : wB.cell? ⟨w3.heap.size, 3, none⟩ = some (.int .i64 o) := HMB.out.cell 3
      have v4 : wB.cell? ⟨w3.heap.size, 4, none⟩ = some (.slice A n c) := HMB.out.cell 4
      have v5 : wB.cell? ⟨w3.heap.size, 5, none⟩ = some (.slice (some ⟨gv, 0, none⟩) m c7) := HMB.out.cell 5
      clear hvB hkB hwdB hE2 hl2
      simp only at HSW1
      go_wp2_with fail
      refine HE2.out.mono ?_
      rintro e wC ⟨AC, cC, rfl, _, _, hbC⟩
      clear hwB s0 s1 s2 s3 s4 s5 k0 k1 k2 k3 k4 k5 ci0 ci1 cj0 cj1 t5 v0 v1 v2 v3 v4 v5 HMA HOA HBA9 u0 u1 HE2
      have hbC3 := HBB.out.trans (hbC.mono HBB.out.size)
      have hmC := HMB.out.under hbC HMB.out.lt
      have hoC := own_under HOB.out hbC (Nat.le_refl _)
      have hbCd : Below w3.heap.size w3 wC.drew := below_draw6 hbC3
      have hbD : Below w3.heap.size w3 (wC.alloc (.cells #[.int .i64 xi.id, .slice xi.A xi.n xi.c] 39)).drew := below_draw6 (hbC3.alloc hbC3.size _)
      have HBD := Lib.hid hbD
      have HMD : Hid (Has (wC.alloc (.cells #[.int .i64 xi.id, .slice xi.A xi.n xi.c] 39)).drew w3.heap.size 25 #[.int .i64 id, .int .i64 t, .int .i64 a, .int .i64 o, .slice A n c, .slice (some ⟨gv, 0, none⟩) m c7]) := Lib.hid (hmC.beside _).draw
      have HOD : Hid ((wC.alloc (.cells #[.int .i64 xi.id, .slice xi.A xi.n xi.c] 39)).drew.ownsRow w4.heap.size 39 2 (.slice (some ⟨gv, 0, none⟩) m c7) m (pkCells l2)) := Lib.hid (own_draw6 (own_under hoC ((Below.refl wC.heap.size wC).alloc (Nat.le_refl _) _) (Nat.le_refl _)))
      have hbs : w4.heap.size ≤ (wC.alloc (.cells #[.int .i64 xi.id, .slice xi.A xi.n xi.c] 39)).drew.heap.size := by obtain ⟨_, _, _, h1, h2⟩ := HOD.out.form x8; omega
      have HLEN : Hid (([.int .i64 xi.id, .slice xi.A xi.n xi.c] : List Value).length = 1 * 2) := Lib.hid rfl
      have HNW : Hid (∀ (j : Nat) u, ([.int .i64 xi.id, .slice xi.A xi.n xi.c] : List Value)[j]? = some u → (wC.alloc (.cells #[.int .i64 xi.id, .slice xi.A xi.n xi.c] 39)).drew.cell? ((⟨wC.heap.size, 0, none⟩ : Addr).add j) = some u) := Lib.hid (cell_news wC #[.int .i64 xi.id, .slice xi.A xi.n xi.c] 39 [.int .i64 xi.id, .slice xi.A xi.n xi.c] rfl).out
      have H1C : Hid (∀ u ∈ ([.int .i64 xi.id, .slice xi.A xi.n xi.c] : List Value), u.oneCell' = true) := Lib.hid (fun u hu => by simp at hu; rcases hu with rfl | rfl <;> rfl)
      have HBDD : Hid (m + 1 ≤ maxLen ∧ (m + 1) * 32 ≤ 140737488355328 ∧ w4.heap.size ≤ (wC.alloc (.cells #[.int .i64 xi.id, .slice xi.A xi.n xi.c] 39)).drew.heap.size) := Lib.hid ⟨by unfold maxLen; omega, by omega, hbs⟩
      have kf : ∀ W, Below w3.heap.size w3 W → Has W w3.heap.size 25 #[.int .i64 id, .int .i64 t, .int .i64 a, .int .i64 o, .slice A n c, .slice (some ⟨gv, 0, none⟩) m c7] → W.cell? ⟨w3.heap.size, 5, none⟩ = some (.slice (some ⟨gv, 0, none⟩) m c7) ∧ W.cell? ⟨w.heap.size, 5, none⟩ = some (.slice (some ⟨b0, o0, none⟩) m d) ∧ W.cell? ⟨b0, o0 + i * 2, none⟩ = some (.int .i64 xi.id) ∧ W.cell? ⟨b0, o0 + i * 2 + 1, none⟩ = some (.slice xi.A xi.n xi.c) := fun W hW hM => ⟨hM.cell 5, (HC3.out W hW).2.2.2.2.2, (HX3.out W hW).1, (HX3.out W hW).2.1⟩
      have HKF := Lib.hid kf
      obtain ⟨kc0, kc1, kc2, kc3⟩ := kf _ hbCd hmC.draw
      obtain ⟨kd0, kd1, kd2, kd3⟩ := kf _ hbD HMD.out
      clear hbC hbC3 hmC hoC hbCd hbD hbs kf HMB HOB HBB
      go_wp2_with fail
      go_region_law (first
        | (refine step_push (o := ⟨some 117, _, _, _, _, _⟩) rfl (.tmp 110) (.tmp 116) 23 rfl w4.heap.size 39 (.agg #[.int .i64 0, .slice none 0 0]) 2 32 Tryd.underlying23 info_pkt rfl (by decide) (some ⟨gv, 0, none⟩) m c7 (pkCells l2) rfl HOD ⟨wC.heap.size, 0, none⟩ 1 1 [.int .i64 xi.id, .slice xi.A xi.n xi.c] rfl HLEN HNW H1C HBDD ?_; intro A12 c12 wE ho12 hg12; have hmE := HMD.out.grow hg12.out (fun e => own_apart HOD.out HMD.out (by decide) e.symm); have hbE := below_own HBD.out HBD.out.size HOD.out HS34X.out rfl hg12.out; have KE := HKF.out _ hbE hmE; obtain ⟨r50, r51, r52, r53⟩ := KE; have e5f : wE.frozen? ⟨w3.heap.size, 5, none⟩ = false := hmE.thaw 5; have v0 : wE.cell? ⟨w3.heap.size, 0, none⟩ = some (.int .i64 id) := hmE.cell 0; have v1 : wE.cell? ⟨w3.heap.size, 1, none⟩ = some (.int .i64 t) := hmE.cell 1; have v2 : wE.cell? ⟨w3.heap.size, 2, none⟩ = some (.int .i64 a) := hmE.cell 2; have v3 : wE.cell? ⟨w3.heap.size, 3, none⟩ = some (.int .i64 o) := hmE.cell 3; have v4 : wE.cell? ⟨w3.heap.size, 4, none⟩ = some (.slice A n c) := hmE.cell 4))
      all_goals
        have HSO := Lib.hid ho12.out
        have ho12' : wE.ownsRow w4.heap.size 39 2 (.slice A12 (m + 1) c12) (m + 1) (pkCells (l2 ++ [xi])) := by have := ho12.out; simpa [pkCells] using this
        have hmF := hmE.stored 5 (.slice A12 (m + 1) c12)
        have hgF : wE.grownBy (wE.setCell ⟨w3.heap.size, 5, none⟩ (.slice A12 (m + 1) c12)) (some w3.heap.size) := only_store (only_refl _ _) rfl _
        have hoF := own_keep ho12' hgF (own_apart ho12' hmE (by decide))
        have hbF := below_only hbE hgF hbE.size (Nat.le_refl _)
        obtain ⟨hvF, hkF, hwdF⟩ := HI3.out _ hbF
        have HE3 := Lib.hid (omg_encode id t a o A n c A12 (m + 1) c12 V (l2 ++ [xi]) _ hvF (slk_own hoF (by rw [List.length_append, hln2]; rfl) hkF (fun p hp => (List.mem_append.1 hp).elim (HSW3.out p) (fun h => by rw [List.mem_singleton] at h; exact h ▸ HXI.out))) (by omega) (by omega) (fun p hp => by have := HPN.out p ((List.mem_append.1 hp).elim (HSW3.out p) (fun h => by rw [List.mem_singleton] at h; exact h ▸ HXI.out)); omega) hwdF)
        unfold Bytes0 msgV msgCells at HE3
        obtain ⟨E3, hE3⟩ : ∃ E, encF (msgOf id t a o V (l2 ++ [xi])) = E := ⟨_, rfl⟩
        rw [hE3] at HE3 HSW2
        obtain ⟨es3, ec3⟩ := E3
        have HBF := Lib.hid (UPA.out _ hbF)
        have x3 : (ec3 != 0) = true := by have := HSW2.out; simp only at this; simp [this]
        have HSQ : Hid (decide (ec1 = 0) = decide (ec2 = 0)) := Lib.hid (by rw [decide_eq_decide]; exact HSW1)
        clear hoF hbF hvF hkF hwdF hE3 hmF hgF ho12' ho12 hg12 hbE hmE HOD HMD HBD HNW HSO HSW1
        go_wp2_with fail
        refine HE3.out.mono ?_
        rintro e wG ⟨AG, cG, rfl, _, _, hbG⟩
        have HBe := Lib.hid (HBA.out.trans ((HBF.out.trans (hbG.mono HBF.out.size)).mono HBA.out.size))
        clear v0 v1 v2 v3 v4 e5f r50 r51 r52 r53 HE3 hbG HBF
        by_cases h1 : ec1 = 0
        · have h2 : ec2 = 0 := by have := HSQ.out; rw [decide_eq_true h1] at this; simpa using this.symm
          subst h1
          subst h2
          go_wp2
          go_ret
          exact ⟨rfl, HBe.out⟩
        · have h2 : ¬ ec2 = 0 := by have := HSQ.out; rw [decide_eq_false h1] at this; simpa using this.symm
          have y1 : (ec1 == 0) = false := by simp [h1]
          have y2 : (ec2 == 0) = false := by simp [h2]
          clear h1 h2
          go_wp2
          go_ret
          exact ⟨rfl, HBe.out⟩
end Go.Proofs.YtamnhnleipnhdaaDoor
