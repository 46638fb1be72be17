/-
  linesidelaw05.PacketOne, walked.
-/
import Derived.Test.YtccmickemglmaaaDoorLawPacketBack

namespace Go.Proofs.YtccmickemglmaaaDoor

open Go.RowKit

open BitsM

/-- wpList_pour, at a region that draws its order. -/
theorem step_pourI {P : Program} {ops : Array Oper} {o : Oper} {a : Act} {w : World} {K : Act → World → Prop} {Q : Exit → Act → World → Prop} {E : Prop} (hgd : o.guard = none) (s x : Operand) (t : TypeId)
    (ho : o.op = .call { callee := .builtin .append, args := #[s, x], argTypes := #[t, t] })
    (base : Nat) (e : TypeId) (z : Value) (size bytes : Nat) (ht : P.underlying t = some (.slice e)) (hinfo : (P.info? e).map (fun i => (i.zero, i.size, i.bytes)) = some (some z, size, bytes))
    (hzs : z.cells.size = size) (hsz : 0 < size)
    (A : Option Addr) (n c : Nat) (xs : List Value) (hs : a.eval s = .slice A n c) (hown : Hid (w.ownsRow base e size (.slice A n c) n xs))
    (B : Option Addr) (m cc : Nat) (news : List Value) (hx : a.eval x = .slice B m cc) (hl : Hid (Sl w size B m cc news)) (h1 : Hid (∀ u ∈ news, u.oneCell' = true))
    (hb : Hid (n + m ≤ maxLen ∧ (n + m) * bytes ≤ 140737488355328 ∧ base ≤ w.heap.size))
    (h : ∀ A' c' w', Hid (w'.ownsRow base e size (.slice A' (n + m) c') (n + m) (xs ++ news)) → Hid (w.grownBy w' (Value.ownBlock (.slice A n c))) →
      K (a.put o.dst (.slice A' (n + m) c')) w') : if Region.wanted o (yielded ops a.tmps) = true then Oper.wp P o a w K Q else E := by
  cases B with
  | none =>
    obtain ⟨rfl, rfl⟩ := hl.out.2.1 rfl
    have e0 : news = [] := List.eq_nil_of_length_eq_zero (by simpa using hl.out.1)
    subst e0
    have hw : Region.wanted o (yielded ops a.tmps) = true := by simp [Region.wanted, hgd]
    rw [if_pos hw]
    obtain ⟨i, hi, _⟩ := info_parts hinfo
    have hr := run_append_owned_none (P := P) (w := w) base t o.type e i size ht hi (.slice A n c) n xs hown.out
    unfold Oper.wp execOp
    simp only [ho, resolve, invoke, builtin, Sem.run_bind, Sem.run_pure, Result.andThen_ok, List.map_toArray, List.map_cons, List.map_nil, hs, hx, hr]
    exact h A c w (show Hid _ by simpa using hown) (only_refl _ _)
  | some ad =>
    exact step_push hgd s x t ho base e z size bytes ht hinfo hzs hsz A n c xs hs hown ad m cc news hx hl.out.1 (hl.out.2.2 ad rfl) h1 hb h
theorem ownI {w : World} {base : Nat} {A : Option Addr} {p c : Nat} {xs : List Value} (h : Hid (w.ownsRow base 3 1 (.slice A (0 + p) c) (0 + p) ([] ++ xs))) : Hid (w.ownsRow base 3 1 (.slice A p c) p xs) := by
  have := h.out
  rw [Nat.zero_add, List.nil_append] at this
  exact this

/-- Packets that have the same bits are the same. -/
theorem one_pure {id : Int} {V V' : List Int} {O O' : List (Int × Int)} (h : itemsF id V = (O, 0)) (h' : itemsF id V' = (O', 0)) (hb : laidOf O = laidOf O') : V = V' := by
  have h1 := get_back h [] []
  have h2 := get_back h' [] []
  rw [hb, h2] at h1
  simp only [Prod.mk.injEq] at h1
  exact h1.1.2.symm

set_option maxRecDepth 100000 in
set_option maxHeartbeats 4000000 in
theorem packetOne_walk (id : Int) (A : Option Addr) (n c : Nat) (V : List Int) (a b : Int) (w : World) (h : SlI w.heap.size w A n c V) (ha : (Lit.int .i64 a).wf = true) (_hb : (Lit.int .i64 b).wf = true) (hwd : Wd w) :
    Calls Tryd.prog 8 #[pkV id A n c, .int .i64 a, .int .i64 b] w fun e w' => e = .returned (.bool true) ∧ Below w.heap.size w w' := by
  obtain ⟨wa, hwa⟩ : ∃ wa, w.alloc (.cells #[.int .i64 id, .slice A n c] 24) = wa := ⟨_, rfl⟩
  have hba : Below w.heap.size w wa := by rw [← hwa]; exact (Below.refl _ _).alloc (Nat.le_refl _) _
  have hsz : w.heap.size < wa.heap.size := by rw [← hwa]; simp
  have hc0 : ∀ W, Below wa.heap.size wa W → W.cell? ⟨w.heap.size, 0, none⟩ = some (.int .i64 id) ∧ W.cell? ⟨w.heap.size, 1, none⟩ = some (.slice A n c) := fun W hW => by
    have hh : Has wa w.heap.size 24 #[.int .i64 id, .slice A n c] := by rw [← hwa]; exact Has.made _ _ _
    rw [hW.cell hsz, hW.cell hsz, hh.cell, hh.cell]
    exact ⟨rfl, rfl⟩
  have HA0 := Lib.hid (awake_any wa (hwd.under hba))
  have HBA := Lib.hid hba
  have HDD := Lib.hid (fun W (hW : Below wa.heap.size wa W) => (hwd.under hba).under hW)
  have hV : ∀ W, Below wa.heap.size wa W → SlI W.heap.size W A n c V := fun W hW =>
    sli_under h (hba.trans (hW.mono (Nat.le_of_lt hsz))) (Nat.le_trans (Nat.le_of_lt hsz) hW.size)
  have hvl := h.len
  have HV := Lib.hid hV
  have up : ∀ (W W' : World), Below wa.heap.size wa W → Below W.heap.size W W' → Below wa.heap.size wa W' := fun W W' h1 h2 => h1.trans (h2.mono h1.size)
  clear h hwd hV
  by_cases hin : n ≤ 3000
  · have x1 : ¬ (3000 : Int) < (n : Int) := by omega
    by_cases hneg : a < 0
    · unfold pkV
      go_enter Tryd.func8, Tryd.ntmps8
      go_wp2_with fail
      clear hwa
      refine HA0.out.mono ?_
      rintro e w1 ⟨rfl, hb1⟩
      have HB1 := Lib.hid (HBA.out.trans (hb1.mono HBA.out.size))
      obtain ⟨k0, k1⟩ := hc0 w1 hb1
      clear hb1 HA0 hc0
      go_wp2
      go_ret
      exact ⟨rfl, HB1.out⟩
    · obtain ⟨i, rfl⟩ : ∃ i : Nat, a = i := ⟨a.toNat, by omega⟩
      by_cases hbig : (n : Int) ≤ i
      · unfold pkV
        go_enter Tryd.func8, Tryd.ntmps8
        go_wp2_with fail
        clear hwa
        refine HA0.out.mono ?_
        rintro e w1 ⟨rfl, hb1⟩
        have HB1 := Lib.hid (HBA.out.trans (hb1.mono HBA.out.size))
        obtain ⟨k0, k1⟩ := hc0 w1 hb1
        clear hb1 HA0 hc0
        go_wp2
        go_ret
        exact ⟨rfl, HB1.out⟩
      · have C1 := Lib.hid (fun W hW => opk_items id A n c V W (HV.out W hW) (by omega) (HDD.out W hW))
        have hln := items_len2 id V
        rw [hvl] at hln
        have hfit := items_fit id V
        obtain ⟨T, hT⟩ : ∃ T, itemsF id V = T := ⟨_, rfl⟩
        rw [hT] at C1 hln hfit
        have HT := Lib.hid hT; have HF := Lib.hid hfit
        clear hT hfit
        unfold pkV at *
        go_enter Tryd.func8, Tryd.ntmps8
        go_wp2_with fail
        clear hwa
        refine HA0.out.mono ?_
        rintro e w1 ⟨rfl, hb1⟩
        obtain ⟨k0, k1⟩ := hc0 w1 hb1
        have HC1 := Lib.hid (C1.out w1 hb1)
        have HB1 := Lib.hid hb1
        clear hb1 HA0 C1
        go_wp2_with fail
        refine HC1.out.mono ?_
        rintro e w2 ⟨A2, m2, c2, rfl, hs2, hb2⟩
        have hb2' := up w1 w2 HB1.out hb2
        obtain ⟨k20, k21⟩ := hc0 w2 hb2'
        have HS2 := Lib.hid hs2
        have HB2 := Lib.hid hb2'
        have HBW2 := Lib.hid (HBA.out.trans (hb2'.mono HBA.out.size))
        have HVW := Lib.hid (HV.out w2 hb2').sl
        clear hs2 hb2 hb2' k0 k1 HC1 HB1
        have KC := Lib.hid (fun W (hW : Below w2.heap.size w2 W) => hc0 W (up w2 W HB2.out hW))
        have H1A := Lib.hid (ints_one V)
        have HSA : Hid (Sl w2.drew 1 A n c (ints V)) := HVW.out
        have HSB : Hid (Sl (w2.alloc (.cells #[.int .i64 0, .slice none 0 0] 24)).drew 1 A n c (ints V)) := HVW.out.beside _
        have HDA : Hid (0 + n ≤ maxLen ∧ (0 + n) * 8 ≤ 140737488355328 ∧ w2.heap.size ≤ w2.drew.heap.size) := ⟨by unfold maxLen; omega, by omega, Nat.le_refl _⟩
        have HDB : Hid (0 + n ≤ maxLen ∧ (0 + n) * 8 ≤ 140737488355328 ∧ w2.heap.size ≤ (w2.alloc (.cells #[.int .i64 0, .slice none 0 0] 24)).drew.heap.size) := ⟨by unfold maxLen; omega, by omega, by show _ ≤ (w2.alloc (.cells #[.int .i64 0, .slice none 0 0] 24)).heap.size; simp⟩
        have hbA : Below w2.heap.size w2 w2.drew := below_draws (Below.refl _ _) 1
        have hbB : Below w2.heap.size w2 (w2.alloc (.cells #[.int .i64 0, .slice none 0 0] 24)).drew := below_draws ((Below.refl _ _).alloc (Nat.le_refl _) _) 1
        have HZB : Hid (Has (w2.alloc (.cells #[.int .i64 0, .slice none 0 0] 24)).drew w2.heap.size 24 #[.int .i64 0, .slice none 0 0]) := (Has.made w2 _ _)
        go_upto_region 5 with fail
        go_cut [10] (fun s10 wc => ∃ (g : Nat) (A3 : Option Addr) (c3 : Nat), s10 = .pointer (some ⟨g, 0, none⟩) ∧ Has wc g 24 #[.int .i64 id, .slice A3 n c3] ∧ wc.ownsRow w2.heap.size 3 1 (.slice A3 n c3) n (ints V) ∧ Below w2.heap.size w2 wc)
        case first =>
          go_region_held3 (fun w' => w'.cell? ⟨w.heap.size, 0, none⟩ = some (.int .i64 id) ∧ w'.cell? ⟨w.heap.size, 1, none⟩ = some (.slice A n c)) (first | exact KC.out _ (by assumption) | go_keep) (first
            | (refine step_pourI (o := ⟨some 46, _, _, _, _, _⟩) (by rfl) (.const (.slice none 0 0)) (.tmp 45) 22 (by rfl) w2.heap.size 3 (.int .i64 0) 1 8 Tryd.underlying22 info_int (by rfl) (by decide) none 0 0 [] (by rfl) (World.ownsRow_nil _ _ _ _) A n c (ints V) (by rfl) HSA H1A HDA ?_; intro A6 c6 w6 ho6 hg6; have HO6 := ownI ho6; have hb6 : Below w2.heap.size w2 w6 := below_own hbA HDA.out.2.2 (World.ownsRow_nil _ w2.heap.size 3 1) (Nat.le_refl _) rfl hg6.out; have hb6a := hb6.alloc hb6.size (.cells #[.int .i64 id, .slice A6 n c6] 24))
            | (refine step_pourI (o := ⟨some 46, _, _, _, _, _⟩) (by rfl) (.const (.slice none 0 0)) (.tmp 45) 22 (by rfl) w2.heap.size 3 (.int .i64 0) 1 8 Tryd.underlying22 info_int (by rfl) (by decide) none 0 0 [] (by rfl) (World.ownsRow_nil _ _ _ _) A n c (ints V) (by rfl) HSB H1A HDB ?_; intro A6 c6 w6 ho6 hg6; have HO6 := ownI ho6; have hb6 : Below w2.heap.size w2 w6 := below_own hbB HDB.out.2.2 (World.ownsRow_nil _ w2.heap.size 3 1) (Nat.le_refl _) rfl hg6.out; have hz6 := HZB.out.grow hg6.out (by simp [Value.ownBlock]); obtain ⟨⟨p0, pf0, r1, rf1⟩, ⟨p1, pf1⟩, ph, pb, pg⟩ := pk_store hz6 (.int .i64 id) (.slice A6 n c6); have hb6a := pb w2.heap.size w2 (Nat.le_refl _) hb6.size hb6))
          all_goals
            go_wp2_with fail
            go_meet
            first
              | exact ⟨w6.heap.size, A6, c6, rfl, Has.made _ _ _, HO6.out.alloc _, hb6a⟩
              | exact ⟨w2.heap.size, A6, c6, rfl, ph, own_keep HO6.out pg (own_apart HO6.out hz6 (by decide)), hb6a⟩
        case rest =>
          obtain ⟨g, A3, c3, rfl, hh3, ho3, hb3⟩ := hcut
          clear HZB hbB hbA HDB HDA HSB HSA H1A k20 k21 HVW
          obtain ⟨gv, cap, hvo, _, _⟩ := ho3.form (by omega)
          injection hvo with hvo1 _ hvo2
          subst hvo1
          subst hvo2
          have hiv : (ints V)[i]? = some (.int .i64 (V.getD i 0)) := by
            have : i < V.length := by omega
            simp [ints, List.getD_eq_getElem?_getD, List.getElem?_eq_getElem this]
          have r1 : wc.cell? ⟨g, 1, none⟩ = some (.slice (some ⟨gv, 0, none⟩) n c3) := by rw [hh3.cell]; rfl
          have r2 : wc.cell? ⟨gv, i, none⟩ = some (.int .i64 (V.getD i 0)) := by rw [ho3.cellAt i (by omega)]; exact hiv
          have r3 : wc.frozen? ⟨gv, i, none⟩ = false := ho3.frozenAt _
          have hgne : g ≠ gv := fun e => own_apart ho3 hh3 (by decide) (by rw [e]; rfl)
          have hsto := ho3.stored i (.int .i64 b)
          have hset : (ints V).set i (.int .i64 b) = ints (V.set i b) := by simp [ints, List.map_set]
          rw [hset] at hsto
          have hb4 := below_own hb3 hb3.size ho3 (Nat.le_refl _) rfl hsto.2
          have hh4 := hh3.apart (p := ⟨gv, i, none⟩) hgne (.int .i64 b)
          have hI := opk_items id (some ⟨gv, 0, none⟩) n c3 (V.set i b) _ (sli_own hsto.1 (by rw [List.length_set]; exact hvl)) (by omega) (HDD.out _ (up w2 _ HB2.out hb4))
          have hln' := items_len2 id (V.set i b)
          rw [List.length_set, hvl] at hln'
          have hfit' := items_fit id (V.set i b)
          have r4 : (wc.setCell ⟨gv, i, none⟩ (.int .i64 b)).cell? ⟨g, 0, none⟩ = some (.int .i64 id) := by rw [hh4.cell]; rfl
          have r5 : (wc.setCell ⟨gv, i, none⟩ (.int .i64 b)).cell? ⟨g, 1, none⟩ = some (.slice (some ⟨gv, 0, none⟩) n c3) := by rw [hh4.cell]; rfl
          obtain ⟨T', hT'⟩ : ∃ T', itemsF id (V.set i b) = T' := ⟨_, rfl⟩
          rw [hT'] at hI hln' hfit'
          have HT' := Lib.hid hT'; have HF' := Lib.hid hfit'; have HI := Lib.hid hI; have HB4 := Lib.hid hb4; have HIV := Lib.hid hiv
          have x4 : ¬ (i : Int) < 0 := by omega
          have x5 : (i : Int) < n := by omega
          have x6 : (0 : Int) ≤ i := by omega
          generalize V.getD i 0 = y0 at *
          clear hT' hfit' hI hb4 hb3 hh3 hh4 ho3 hsto hset hiv hgne hbig
          unfold pkV at HI
          go_wp2_with fail
          refine HI.out.mono ?_
          rintro e w5 ⟨A5, m5, c5, rfl, hs5, hb5⟩
          have hB5 := HB4.out.trans (hb5.mono HB4.out.size)
          have HS5 := Lib.hid hs5; have HB5 := Lib.hid hB5; have HBW5 := Lib.hid (HBW2.out.trans (hB5.mono HBW2.out.size))
          obtain ⟨k50, k51⟩ := KC.out w5 hB5
          have hv5 := (HV.out w5 (up w2 w5 HB2.out hB5)).sl.at_ HIV.out
          clear hs5 hb5 hB5 HI r1 r2 r3 r4 r5
          by_cases he : T.2 = 0
          · by_cases hf : T'.2 = 0
            · have z1 : (T.2 != 0) = false := by simp [he]
              have z2 : (T'.2 != 0) = false := by simp [hf]
              obtain ⟨vb, vo, hA, hcv⟩ := hv5
              subst hA
              by_cases hy : b = y0
              · have z3 : ((b : Int) == y0) = true := by simp [hy]
                clear hy
                go_wp2
                go_ret
                exact ⟨rfl, HBW5.out⟩
              · have z3 : ((b : Int) == y0) = false := by simp [hy]
                have hne : laidOf T.1 ≠ laidOf T'.1 := fun e => by
                  have h1 := one_pure (id := id) (V := V) (V' := V.set i b) (O := T.1) (O' := T'.1) (by rw [HT.out, ← he]) (by rw [HT'.out, ← hf]) e
                  have h2 := HIV.out
                  rw [h1] at h2
                  have h3 : i < V.length := by omega
                  simp [ints, h3] at h2
                  exact hy h2
                have htt : (laidOf T.1).length ≤ 8184 := by
                  have h2 : itemsF id V = (T.1, 0) := by rw [HT.out, ← he]
                  obtain ⟨_, _, _, _, _, _, ht⟩ := items_ok h2
                  have := laid_total (fun x hx => (HF.out x hx).2.2.1)
                  omega
                have HNE := Lib.hid hne
                have hm2 := HS2.out.len
                have hm5 := HS5.out.len
                have HL1 := Lib.hid (laid_any A2 m2 c2 T.1 w5 (HS2.out.under HB5.out) (by omega) HF.out)
                clear hne hy
                go_wp2_with fail
                refine HL1.out.mono ?_
                rintro e w6 ⟨A6, c6, rfl, ho6, hb6⟩
                have HL2 := Lib.hid (laid_any A5 m5 c5 T'.1 w6 (HS5.out.under hb6) (by omega) HF'.out)
                have HB6 := Lib.hid (HBW5.out.trans (hb6.mono HBW5.out.size))
                have HG6 := Lib.hid (Sl.of_own ho6)
                clear ho6 hb6 HL1 k50 k51 hcv
                go_wp2_with fail
                refine HL2.out.mono ?_
                rintro e w7 ⟨A7, c7, rfl, ho7, hb7⟩
                have HB7 := Lib.hid (HB6.out.trans (hb7.mono HB6.out.size))
                have HG7 := Lib.hid (HG6.out.under hb7); have HW7 := Lib.hid (Sl.of_own ho7)
                clear ho7 hb7 HL2 HG6
                generalize laidOf T.1 = xa at *
                generalize laidOf T'.1 = xb at *
                obtain ⟨L, hL⟩ : ∃ L, xa.length = L := ⟨_, rfl⟩
                rw [hL] at HG7 htt
                by_cases hlen : xb.length = L
                · rw [hlen] at HW7
                  simp only [hL, hlen]
                  have xne : ((L : Int) != (L : Int)) = false := by simp
                  have HLA := Lib.hid hL; have HLB := Lib.hid hlen
                  clear hL hlen
                  go_wp2
                  go_loopg [15] L (fun kk iv wl => ∃ j : Nat, j ≤ L ∧ L - j ≤ kk ∧ iv = .int .i64 j ∧ (∀ t, t < j → xa[t]? = xb[t]?) ∧ ∃ q, wl = w7.drewN q)
                  case atStart => exact ⟨0, by omega, by omega, rfl, fun t h => by omega, 0, rfl⟩
                  case round =>
                    obtain ⟨j, hj, hjk, rfl, hsame, q, hq⟩ := hrel
                    have hl := HG7.out.draws q
                    have hk := HW7.out.draws q
                    rw [← hq] at hl hk
                    have HLr := Lib.hid hl; have HKr := Lib.hid hk; have HQ := Lib.hid hq; have HSM := Lib.hid hsame
                    clear hl hk hq hsame
                    by_cases hlt : j < L
                    · obtain ⟨x, hx⟩ : ∃ x, xa[j]? = some x := ⟨_, List.getElem?_eq_getElem (by have := HLA.out; omega)⟩
                      obtain ⟨y, hy⟩ : ∃ y, xb[j]? = some y := ⟨_, List.getElem?_eq_getElem (by have := HLB.out; omega)⟩
                      obtain ⟨b1, o1, rfl, hc1⟩ := HLr.out.at_ (j := j) (u := .bool x) (by simp [bools, hx])
                      obtain ⟨b2, o2, rfl, hc2⟩ := HKr.out.at_ (j := j) (u := .bool y) (by simp [bools, hy])
                      have y1 : (j : Int) < L := by omega
                      have y0 : (0 : Int) ≤ j := by omega
                      by_cases hxy : x = y
                      · subst hxy
                        have xe : (x != x) = false := by simp
                        have hnext : ∀ t, t < j + 1 → xa[t]? = xb[t]? := fun t ht => by
                          by_cases e : t = j
                          · rw [e, hx, hy]
                          · exact HSM.out t (by omega)
                        have HNX := Lib.hid hnext
                        clear hx hy hnext
                        go_wp2_with fail
                        go_quiet (fail)
                        go_wp2
                        go_roundg (gk - 1)
                        case measure => omega
                        case rel => exact ⟨j + 1, by omega, by omega, by go_num, HNX.out, q + nq, by rw [HQ.out, World.drewN_drewN]⟩
                      · have hxy2 : (x = true ∧ y = false) ∨ (x = false ∧ y = true) := by cases x <;> cases y <;> simp_all
                        clear hx hy hxy
                        rcases hxy2 with ⟨rfl, rfl⟩ | ⟨rfl, rfl⟩
                        all_goals
                          go_wp2_with fail
                          go_quiet (fail)
                          go_wp2
                          go_ret
                          exact ⟨rfl, by rw [HQ.out, World.drewN_drewN]; exact below_draws HB7.out (q + nq)⟩
                    · exact absurd (List.ext_getElem? fun t => by
                        by_cases ht : t < L
                        · exact HSM.out t (by omega)
                        · rw [List.getElem?_eq_none (by have := HLA.out; omega), List.getElem?_eq_none (by have := HLB.out; omega)]) HNE.out
                · have xne : ((L : Int) != (xb.length : Int)) = true := by simp; omega
                  simp only [hL]
                  go_wp2
                  go_ret
                  exact ⟨rfl, HB7.out⟩
            · have z1 : (T.2 != 0) = false := by simp [he]
              have z2 : (T'.2 != 0) = true := by simp [hf]
              go_wp2
              go_ret
              exact ⟨rfl, HBW5.out⟩
          · have z1 : (T.2 != 0) = true := by simp [he]
            go_wp2
            go_ret
            exact ⟨rfl, HBW5.out⟩
  · have x1 : (3000 : Int) < (n : Int) := by omega
    unfold pkV
    go_enter Tryd.func8, Tryd.ntmps8
    go_wp2_with fail
    clear hwa
    refine HA0.out.mono ?_
    rintro e w1 ⟨rfl, hb1⟩
    obtain ⟨k0, k1⟩ := hc0 w1 hb1
    have HB1 := Lib.hid (HBA.out.trans (hb1.mono HBA.out.size))
    clear hb1 HA0 hc0
    go_wp2
    go_ret
    exact ⟨rfl, HB1.out⟩
end Go.Proofs.YtccmickemglmaaaDoor
