/-
  linesideref15, by contract: Form.
-/
import Derived.Test.YteioefgckigbcaaGreatSnRefA

import Derived.BigQuiet

import Derived.IntWalk

namespace Go.Proofs.YteioefgckigbcaaGreat

open Go.RowKit

open Go.Great

theorem flat_set15 (o : List Sn3) (s : Sn3) (y : Int) : (o ++ [(⟨s.edge, s.lo, y⟩ : Sn3)]).flatMap snC = ((o ++ [s]).flatMap snC).set (o.length * 3 + 2) (.int .i64 y) := by
  have hl := flat_len (f := snC) (k := 3) (fun _ => rfl) o
  rw [List.flatMap_append, List.flatMap_append, List.set_append_right _ _ (by rw [hl]; omega), hl, show o.length * 3 + 2 - o.length * 3 = 2 by omega]
  rfl
theorem own_hi15 {base ko co g : Nat} {w : World} {o : List Sn3} {s : Sn3} (h : OwR snC 3 69 base w (some ⟨g, 0, none⟩) ko co (o ++ [s])) (y : Int) : OwR snC 3 69 base (w.setCell ⟨g, (ko - 1) * 3 + 2, none⟩ (.int .i64 y)) (some ⟨g, 0, none⟩) ko co (setHi (o ++ [s]) y) := by
  have hl : o.length = ko - 1 := by
    have := h.2
    simp at this
    omega
  rw [setHi_snoc]
  exact h.set (by have := h.2; simp at this ⊢; omega) (by rw [flat_set15, hl])
theorem succ_j {j : Nat} (h : j ≤ 8000) : IntKind.i64.wrap ((j : Int) + 1) = (j : Int) + 1 := by
  rw [IntKind.wrap_i64]
  omega
theorem edges_take15 {l : List Sn3} {i : Nat} {x : Sn3} (hx : l[i]? = some x) : edgesF [] (l.take (i + 1)) = insL x.edge (edgesF [] (l.take i)) := by
  unfold edgesF
  rw [List.take_add_one, hx, List.foldl_append]
  rfl
theorem ends_take15 {l : List Sn3} {i : Nat} {x : Sn3} (hx : l[i]? = some x) : endsF [] (l.take (i + 1)) = insL x.hi (insL x.lo (endsF [] (l.take i))) := by
  unfold endsF
  rw [List.take_add_one, hx, List.foldl_append]
  rfl
theorem drop_at15 {α : Type} {l : List α} {i : Nat} {x : α} (hx : l[i]? = some x) : l.drop i = x :: l.drop (i + 1) := by
  obtain ⟨h1, e⟩ := List.getElem?_eq_some_iff.1 hx
  rw [List.drop_eq_getElem_cons h1, e]
theorem fin_stop15 (e : Int) (f : Int → Bool) (out : List Sn3) (o : Bool) {l : List Int} {j : Nat} (h : ¬ j + 1 < l.length) : fin15 e f out o (l.drop j) = out := by
  cases hq : l.drop j with
  | nil => rw [fin15]
  | cons x r =>
    have h1 : (l.drop j).length = r.length + 1 := by rw [hq]; rfl
    rw [List.length_drop] at h1
    obtain rfl : r = [] := List.eq_nil_of_length_eq_zero (by omega)
    rw [fin15]
theorem fin_step15 {e : Int} {f : Int → Bool} {out : List Sn3} {o : Bool} {l : List Int} {j : Nat} {x y : Int} (hx : l[j]? = some x) (hy : l[j + 1]? = some y) : fin15 e f out o (l.drop j) = if f x = true then (if o = true then fin15 e f (setHi out y) true (l.drop (j + 1)) else fin15 e f (out ++ [⟨e, x, y⟩]) true (l.drop (j + 1))) else fin15 e f out false (l.drop (j + 1)) := by
  rw [drop_at15 hx, drop_at15 hy, fin15, ← drop_at15 hy]
theorem setHi_len15 (l : List Sn3) (y : Int) : (setHi l y).length = l.length := by
  unfold setHi
  cases hq : l.getLast? with
  | none =>
    rw [List.getLast?_eq_none_iff.1 hq]
  | some s =>
    obtain ⟨m, rfl⟩ := List.getLast?_eq_some_iff.1 hq
    simp
theorem fin15_ge15 (e : Int) (f : Int → Bool) (out : List Sn3) (o : Bool) (l : List Int) : out.length ≤ (fin15 e f out o l).length := by
  induction l generalizing out o with
  | nil => exact Nat.le_of_eq (by rw [fin15])
  | cons x t ih =>
    cases t with
    | nil => exact Nat.le_of_eq (by rw [fin15])
    | cons y r =>
      rw [fin15]
      split
      · split
        · refine Nat.le_trans (Nat.le_of_eq ?_) (ih _ _)
          rw [setHi_len15]
        · refine Nat.le_trans ?_ (ih _ _)
          simp
      · exact ih _ _
theorem fin_ge15 (F : Int → Int → Bool) (en : List Int) (out : List Sn3) (l : List Int) : out.length ≤ (finE F en out l).length := by
  induction l generalizing out with
  | nil => exact Nat.le_refl _
  | cons e r ih => exact Nat.le_trans (fin15_ge15 _ _ _ _ _) (ih _)
theorem snoc15 {α : Type} {l : List α} (h : l ≠ []) : ∃ o s, l = o ++ [s] := ⟨l.dropLast, l.getLast h, (List.dropLast_concat_getLast h).symm⟩

set_option maxRecDepth 100000 in
set_option maxHeartbeats 20000000 in
theorem rsform_any (a b : List Sn3) (k : Kp3) (A B : Option Addr) (n c m d : Nat) (w : World) (ha : SlO snC 3 w A n c a) (hb : SlO snC 3 w B m d b) (hn : n ≤ 2000) (hm : m ≤ 2000) :
    Calls Tryz.prog 70 #[.slice A n c, .slice B m d, .agg #[.bool k.one, .bool k.other, .bool k.common]] w fun r w' => ∃ X x, r = .returned (.slice X (formL a b k).length x) ∧ SlO snC 3 w' X (formL a b k).length x (formL a b k) ∧ (formL a b k).length ≤ x ∧ Below w.heap.size w w' := by
  obtain ⟨R, hR⟩ : ∃ R, formL a b k = R := ⟨_, rfl⟩
  have HR := Lib.hid (show finE (wantF a b k) (endsF [] (a ++ b)) [] (edgesF [] (a ++ b)) = R from hR)
  have HRL := Lib.hid (show R.length ≤ 8000 from by rw [← hR]; have h1_ := form_few a b k; have h2_ := ha.1; have h3_ := hb.1; omega)
  rw [hR]
  clear hR
  have HNA := Lib.hid hn
  have HNB := Lib.hid hm
  have HLA := Lib.hid ha.1
  have HLB := Lib.hid hb.1
  obtain ⟨wa, hwa⟩ : ∃ wa, w.alloc (.cells #[.bool k.one, .bool k.other, .bool k.common] 104) = wa := ⟨_, rfl⟩
  have hbwa : Below w.heap.size w wa := by rw [← hwa]; exact (Below.refl _ _).alloc (Nat.le_refl _) _
  have h0 : Has wa (w.heap.size) 104 #[.bool k.one, .bool k.other, .bool k.common] := by rw [← hwa]; exact (Has.made _ _ _)
  have HWA := Lib.hid hwa; have HBWA := Lib.hid hbwa
  have HA := Lib.hid (fun W (hW : Below w.heap.size w W) => ha.under hW)
  have HBB := Lib.hid (fun W (hW : Below w.heap.size w W) => hb.under hW)
  have HG0 := Lib.hid (fun W (hW : Below wa.heap.size wa W) => h0.under hW h0.lt)
  obtain ⟨hO, hSL, h1, hBD⟩ := pourR (f := snC) (k := 3) (e := 69) 24 (OwR.nil snC 3 69 wa.heap.size wa) (ha.under hbwa) one_sn15 (Nat.le_refl _) (by omega) (by omega)
  have HBA := Lib.hid (fun W (hW : Below wa.heap.size wa W) => hbwa.trans (hW.mono hbwa.size))
  clear hwa hbwa h0 ha hb HBWA
  go_enter Tryz.func70, Tryz.ntmps70
  go_upto_region 1 with fail
  rw [HWA.out]
  clear HWA
  go_wp2_with (with_reducible refine wpList_pour (o := ⟨some 19, _, _, _, _, _⟩) rfl (.const (.slice none 0 0)) (.tmp 18) 44 rfl wa.heap.size 69 (.agg #[.int .i64 0, .int .i64 0, .int .i64 0]) 3 24 Tryz.underlying44 info_span15 ?hz1 (by decide) none (0) 0 (([]).flatMap snC) ?hs1 hO A n c ((a).flatMap snC) ?hx1 hSL h1 hBD ?next1)
  all_goals try rfl
  case next1 =>
    intro A1 c1 v1 ho hg
    have HO := Lib.hid (show OwR snC 3 69 wa.heap.size v1 A1 n c1 a from ⟨ho.out, HLA.out⟩)
    have HB := Lib.hid (below_own (Below.refl wa.heap.size wa) (Nat.le_refl _) hO.out (Nat.le_refl _) rfl hg.out)
    clear ho hg hO hSL h1 hBD
    obtain ⟨hO, hSL, h1, hBD⟩ := pourR (f := snC) (k := 3) (e := 69) 24 HO.out (HBB.out v1 (HBA.out v1 HB.out)) one_sn15 HB.out.size (by have h_ := HNA.out; have h2_ := HNB.out; omega) (by omega)
    go_upto_region 2 with fail
    go_wp2_with (with_reducible refine wpList_pour (o := ⟨some 22, _, _, _, _, _⟩) rfl (.tmp 20) (.tmp 21) 44 rfl wa.heap.size 69 (.agg #[.int .i64 0, .int .i64 0, .int .i64 0]) 3 24 Tryz.underlying44 info_span15 ?hz2 (by decide) A1 (n) c1 ((a).flatMap snC) ?hs2 hO B m d ((b).flatMap snC) ?hx2 hSL h1 hBD ?next2)
    all_goals try rfl
    case next2 =>
      intro A2 c2 v2 ho hg
      have HO := Lib.hid (OwR.poured HLA.out HLB.out ho.out)
      have HB := Lib.hid (below_own HB.out HB.out.size hO.out (Nat.le_refl _) rfl hg.out)
      clear ho hg hO hSL h1 hBD
      obtain ⟨N, hN⟩ : ∃ N, n + m = N := ⟨_, rfl⟩
      have HN := Lib.hid (show N ≤ 4000 from by have h_ := HNA.out; have h2_ := HNB.out; omega)
      rw [hN] at HO
      simp only [hN]
      have HLN := Lib.hid HO.out.2
      have HALL := Lib.hid (fun W (hW : Below v2.heap.size v2 W) => HO.out.sl.under hW)
      have HB2 := Lib.hid HB.out
      clear hN HO HB
      obtain ⟨L, hL⟩ : ∃ L, a ++ b = L := ⟨_, rfl⟩
      rw [hL] at HR HLN HALL
      clear hL
      have hn2 : N ≤ 4000 := HN.out
      go_wp2
      go_loopg [8, 9, 10] N (fun kk v8 v9 v10 wl => ∃ (i ke kd : Nat) (Ae Ad : Option Addr) (ce cd : Nat), i ≤ N ∧ N - i ≤ kk ∧ v10 = .int .i64 i ∧ v8 = .slice Ae ke ce ∧ v9 = .slice Ad kd cd ∧ Hid (SlO inC 1 wl Ae ke ce (edgesF [] (L.take i))) ∧ Hid (SlO inC 1 wl Ad kd cd (endsF [] (L.take i))) ∧ Hid (Below v2.heap.size v2 wl))
      case atStart => exact ⟨0, 0, 0, none, none, 0, 0, by omega, by omega, rfl, rfl, rfl, Lib.hid (SlO.nil _ _ _), Lib.hid (SlO.nil _ _ _), Lib.hid (Below.refl _ _)⟩
      case round =>
        obtain ⟨i, ke, kd, Ae, Ad, ce, cd, hi, hik, rfl, rfl, rfl, HE, HD, HB⟩ := hrel
        have HKE := Lib.hid (show ke ≤ i from by have h1_ := HE.out.1; have h2_ := edges_len [] (L.take i); rw [List.length_take] at h2_; have h3_ : ([] : List Int).length = 0 := rfl; omega)
        have HKD := Lib.hid (show kd ≤ 2 * i from by have h1_ := HD.out.1; have h2_ := ends_len [] (L.take i); rw [List.length_take] at h2_; have h3_ : ([] : List Int).length = 0 := rfl; omega)
        by_cases hlt : i < N
        · obtain ⟨x, hx⟩ : ∃ x, L[i]? = some x := ⟨_, List.getElem?_eq_getElem (by rw [HLN.out]; omega)⟩
          have HX := Lib.hid hx
          obtain ⟨bk, off, rfl, d0, -, -⟩ := (HALL.out wr HB.out).span hx
          have HCX := Lib.hid (fun W (hW : Below v2.heap.size v2 W) => (show W.cell? ⟨bk, off + i * 3 + 1, none⟩ = some (.int .i64 x.lo) ∧ W.cell? ⟨bk, off + i * 3 + 2, none⟩ = some (.int .i64 x.hi) from by obtain ⟨b_, o_, e_, -, h1_, h2_⟩ := (HALL.out W hW).span HX.out; injection e_ with e_; injection e_ with e1_ e2_ _; subst e1_ e2_; exact ⟨h1_, h2_⟩))
          clear hx
          have x1 : (i : Int) < N := by omega
          have x2 : (0 : Int) ≤ i := by omega
          obtain ⟨w1, hw1⟩ : ∃ w1, w1 = wr := ⟨_, rfl⟩
          subst hw1
          go_upto_region 8 with fail
          go_wp2_with fail
          refine (rswith_any (edgesF [] (L.take i)) x.edge Ae ke ce w1 HE.out (by have h1_ := HKE.out; have h2_ := HN.out; omega)).mono ?_
          rintro e_ u1 ⟨B1, e1, rfl, hs, hb⟩
          rw [← edges_take15 HX.out] at hs
          rw [← edges_take15 HX.out]
          obtain ⟨ke1, hke1⟩ : ∃ q, (edgesF [] (L.take (i + 1))).length = q := ⟨_, rfl⟩
          rw [hke1] at hs
          simp only [hke1]
          have HE1 := Lib.hid hs
          have HD1 := Lib.hid (HD.out.under hb)
          have HB1 := Lib.hid (HB.out.trans (hb.mono HB.out.size))
          have d1 := (HCX.out u1 HB1.out).1
          clear hs hb hke1 d0
          go_wp2_with fail
          refine (rswith_any (endsF [] (L.take i)) x.lo Ad kd cd u1 HD1.out (by have h1_ := HKD.out; have h2_ := HN.out; omega)).mono ?_
          rintro e_ u2 ⟨B2, e2, rfl, hs, hb⟩
          obtain ⟨kd1, hkd1⟩ : ∃ q, (insL x.lo (endsF [] (L.take i))).length = q := ⟨_, rfl⟩
          have HKD1 := Lib.hid (show kd1 ≤ kd + 1 from by rw [← hkd1]; have h1_ := ins_len x.lo (endsF [] (L.take i)); have h2_ := HD1.out.1; omega)
          rw [hkd1] at hs
          simp only [hkd1]
          have HE2 := Lib.hid (HE1.out.under hb)
          have HD2 := Lib.hid hs
          have HB2' := Lib.hid (HB1.out.trans (hb.mono HB1.out.size))
          have d2 := (HCX.out u2 HB2'.out).2
          clear hs hb hkd1 d1
          go_wp2_with fail
          refine (rswith_any (insL x.lo (endsF [] (L.take i))) x.hi B2 kd1 e2 u2 HD2.out (by have h1_ := HKD1.out; have h2_ := HN.out; have h3_ := HKD.out; omega)).mono ?_
          rintro e_ u3 ⟨B3, e3, rfl, hs, hb⟩
          rw [← ends_take15 HX.out] at hs
          rw [← ends_take15 HX.out]
          obtain ⟨kd2, hkd2⟩ : ∃ q, (endsF [] (L.take (i + 1))).length = q := ⟨_, rfl⟩
          rw [hkd2] at hs
          simp only [hkd2]
          have HE3 := Lib.hid (HE2.out.under hb)
          have HD3 := Lib.hid hs
          have HB3 := Lib.hid (HB2'.out.trans (hb.mono HB2'.out.size))
          clear hs hb hkd2 d2 HE HD HE1 HD1 HE2 HD2 HB HB1 HB2'
          go_wp2
          go_roundg (gk - 1)
          case measure => omega
          case rel => exact ⟨i + 1, ke1, kd2, B1, B3, e1, e3, by omega, by omega, by go_num, rfl, rfl, HE3, HD3, HB3⟩
        obtain rfl : i = N := by omega
        have x1 : ¬ (i : Int) < i := by omega
        rw [List.take_of_length_le (Nat.le_of_eq HLN.out)] at HE HD
        clear hik hlt HALL HLN
        obtain ⟨es, hes⟩ : ∃ q, edgesF [] L = q := ⟨_, rfl⟩
        obtain ⟨en, hen⟩ : ∃ q, endsF [] L = q := ⟨_, rfl⟩
        rw [hes] at HE HR
        rw [hen] at HD HR
        clear hes hen
        obtain ⟨w3, hw3⟩ : ∃ w3, w3 = wr := ⟨_, rfl⟩
        subst hw3
        have HLE := Lib.hid HE.out.1
        have HLD := Lib.hid HD.out.1
        have HES := Lib.hid (fun W (hW : Below w3.heap.size w3 W) => HE.out.under hW)
        have HEN := Lib.hid (fun W (hW : Below w3.heap.size w3 W) => HD.out.under hW)
        have HBW := Lib.hid (HB2.out.trans (HB.out.mono HB2.out.size))
        have HBX := Lib.hid (fun W (hW : Below w3.heap.size w3 W) => HBA.out W (HBW.out.trans (hW.mono HBW.out.size)))
        have HGK := Lib.hid (fun W (hW : Below w3.heap.size w3 W) => HG0.out W (HBW.out.trans (hW.mono HBW.out.size)))
        have hke : ke ≤ 4000 := by have := HKE.out; omega
        have hkd : kd ≤ 8000 := by have := HKD.out; omega
        have hke : ke ≤ 4000 := by have := HKE.out; omega
        have hkd : kd ≤ 8000 := by have := HKD.out; omega
        clear HE HD HB HB2 HKE HKD HBA HG0 HBW HN hn2 hi
        obtain ⟨F, hF⟩ : ∃ F, wantF a b k = F := ⟨_, rfl⟩
        rw [hF] at HR
        have HF := Lib.hid (show ∀ e x, wantB k (hasL a e x) (hasL b e x) = F e x from fun e x => by rw [← hF]; rfl)
        clear hF
        go_upto_region 12 with fail
        clear x1
        go_wp2
        go_loopg [11, 12] ke (fun kk v11 v12 wl => ∃ (i ko co : Nat) (Ao : Option Addr) (out : List Sn3), i ≤ ke ∧ ke - i ≤ kk ∧ v12 = .int .i64 i ∧ v11 = .slice Ao ko co ∧ Hid (OwR snC 3 69 w3.heap.size wl Ao ko co out) ∧ Hid (finE F en out (es.drop i) = R) ∧ Hid (ko ≤ 8000) ∧ Hid (Below w3.heap.size w3 wl))
        case atStart => exact ⟨0, 0, 0, none, [], by omega, by omega, rfl, rfl, Lib.hid (OwR.nil _ _ _ _ _), Lib.hid HR.out, Lib.hid (by omega), Lib.hid (Below.refl _ _)⟩
        case round =>
          obtain ⟨i, ko, co, Ao, out, hi, hik, rfl, rfl, HO, HFI, HKO, HB⟩ := hrel
          by_cases hlt : i < ke
          rotate_left
          · obtain rfl : i = ke := by omega
            have x1 : ¬ (i : Int) < i := by omega
            have HD0 : Hid (out = R) := Lib.hid (by rw [← HFI.out, List.drop_of_length_le (Nat.le_of_eq HLE.out)]; rfl)
            have hlo := HO.out.2
            clear hik hlt hi
            go_wp2
            go_ret
            rw [← HD0.out, hlo]
            exact ⟨Ao, co, rfl, HO.out.sl, HO.out.cap, HBX.out _ HB.out⟩
          obtain ⟨e, he⟩ : ∃ x, es[i]? = some x := ⟨_, List.getElem?_eq_getElem (by rw [HLE.out]; omega)⟩
          have HEI := Lib.hid he
          obtain ⟨be, oe, rfl, -⟩ := (HES.out wr HB.out).num he
          have HCE := Lib.hid (fun W (hW : Below w3.heap.size w3 W) => (show W.cell? ⟨be, oe + i, none⟩ = some (.int .i64 e) from by obtain ⟨b_, o_, e_, h1_⟩ := (HES.out W hW).num HEI.out; injection e_ with e_; injection e_ with e1_ e2_ _; subst e1_ e2_; exact h1_))
          have HFJ := Lib.hid (show finE F en (fin15 e (F e) out false (en.drop 0)) (es.drop (i + 1)) = R from by rw [List.drop_zero, ← HFI.out, drop_at15 HEI.out]; rfl)
          clear he
          have x1 : (i : Int) < ke := by omega
          have x2 : (0 : Int) ≤ i := by omega
          have HKO2 := Lib.hid HKO.out
          obtain ⟨k1, hk1⟩ : ∃ k1, k1 = gk := ⟨_, rfl⟩
          subst hk1
          go_upto_region 16 with fail
          go_wp2
          go_loopg [11, 13, 14] kd (fun kk v11 v13 v14 wl => ∃ (j ko co : Nat) (Ao : Option Addr) (out : List Sn3) (op : Bool), j ≤ kd ∧ kd - j ≤ kk ∧ v14 = .int .i64 j ∧ v13 = .bool op ∧ v11 = .slice Ao ko co ∧ Hid (OwR snC 3 69 w3.heap.size wl Ao ko co out) ∧ Hid (finE F en (fin15 e (F e) out op (en.drop j)) (es.drop (i + 1)) = R) ∧ Hid (ko ≤ 8000 ∧ (op = true → 1 ≤ ko)) ∧ Hid (Below w3.heap.size w3 wl))
          case atStart => exact ⟨0, ko, co, Ao, out, false, by omega, by omega, rfl, rfl, rfl, HO, HFJ, Lib.hid ⟨by have := HKO.out; omega, fun h => by cases h⟩, HB⟩
          case round =>
            clear HO HFI HKO HB HFJ
            obtain ⟨j, ko, co, Ao, out, op, hj, hjk, rfl, rfl, rfl, HO, HFJ, HKO, HB⟩ := hrel
            have hjb : j ≤ 8000 := by omega
            by_cases hjl : j + 1 < kd
            rotate_left
            · have y1 : ¬ (j : Int) + 1 < kd := by omega
              have HFS := Lib.hid (show finE F en out (es.drop (i + 1)) = R from by rw [← HFJ.out, fin_stop15 _ _ _ _ (by rw [HLD.out]; exact hjl)])
              have HKF := Lib.hid (show ko ≤ 8000 from by have := HKO.out.1; omega)
              clear hjl
              go_wp2
              go_roundg (k1 - 1)
              case measure => omega
              case rel => exact ⟨i + 1, ko, co, Ao, out, by omega, by omega, by go_num, rfl, HO, HFS, HKF, HB⟩
            obtain ⟨X, hX⟩ : ∃ x, en[j]? = some x := ⟨_, List.getElem?_eq_getElem (by rw [HLD.out]; omega)⟩
            obtain ⟨Y, hY⟩ : ∃ x, en[j + 1]? = some x := ⟨_, List.getElem?_eq_getElem (by rw [HLD.out]; omega)⟩
            have HX := Lib.hid hX
            have HY := Lib.hid hY
            obtain ⟨bd, od, rfl, -⟩ := (HEN.out wr HB.out).num hX
            have HCX := Lib.hid (fun W (hW : Below w3.heap.size w3 W) => (show W.cell? ⟨bd, od + j, none⟩ = some (.int .i64 X) from by obtain ⟨b_, o_, e_, h1_⟩ := (HEN.out W hW).num HX.out; injection e_ with e_; injection e_ with e1_ e2_ _; subst e1_ e2_; exact h1_))
            have HCY := Lib.hid (fun W (hW : Below w3.heap.size w3 W) => (show W.cell? ⟨bd, od + (j + 1), none⟩ = some (.int .i64 Y) from by obtain ⟨b_, o_, e_, h1_⟩ := (HEN.out W hW).num HY.out; injection e_ with e_; injection e_ with e1_ e2_ _; subst e1_ e2_; exact h1_))
            clear hX hY
            have y1 : (j : Int) + 1 < kd := by omega
            have y2 : (0 : Int) ≤ (j : Int) + 1 := by omega
            have y3 : (j : Int) < kd := by omega
            have y4 : (0 : Int) ≤ j := by omega
            obtain ⟨xa, hxa⟩ : ∃ q, hasL a e X = q := ⟨_, rfl⟩
            obtain ⟨xb, hxb⟩ : ∃ q, hasL b e X = q := ⟨_, rfl⟩
            obtain ⟨z, hz⟩ : ∃ q, F e X = q := ⟨_, rfl⟩
            have HXA := Lib.hid hxa
            have HXB := Lib.hid hxb
            have HZ := Lib.hid (show wantB k xa xb = z from by rw [← hxa, ← hxb, ← hz]; exact HF.out e X)
            have HFZ := Lib.hid hz
            clear hxa hxb hz
            have HFT := Lib.hid (HFJ.out.symm.trans (by rw [fin_step15 HX.out HY.out, HFZ.out]))
            clear HFJ
            obtain ⟨k2, hk2⟩ : ∃ k2, k2 = gk := ⟨_, rfl⟩
            subst hk2
            obtain ⟨wv, hwv⟩ : ∃ wv, wv = wr := ⟨_, rfl⟩
            subst hwv
            have HBT := Lib.hid (fun W (hW : Below wv.heap.size wv W) => HB.out.trans (hW.mono HB.out.size))
            go_upto_region 19 with fail
            refine wp_region_held_drew (S := (fun W_ => Has W_ (w.heap.size) 104 #[.bool k.one, .bool k.other, .bool k.common] ∧ Below wv.heap.size wv W_)) (by kernel_rfl) ?_ (fun hHeld => ?_)
            · exact ⟨(HGK.out wv HB.out).draw, below_dr11 (Below.refl _ _)⟩
            refine wpAnyH_take (i := 0) (oi := ⟨some 63, _, _, _, _, _⟩) (v := ?_) rfl (by kernel_rfl) (by kernel_rfl) (by kernel_rfl) (fun _ _ _ h => h) (Or.inl ⟨by rfl, ?_⟩) (by assumption) ?_
            rotate_left
            · intro w_ hSw; (try dsimp only at hSw); go_simp <;> with_reducible rfl
            simp only [Act.put, List.setIfInBounds_toArray, List.set_cons_zero, List.set_cons_succ]
            refine wpAnyH_take (i := 1) (oi := ⟨some 64, _, _, _, _, _⟩) (v := ?_) rfl (by kernel_rfl) (by kernel_rfl) (by kernel_rfl) (fun _ _ _ h => h) (Or.inl ⟨by rfl, ?_⟩) (by assumption) ?_
            rotate_left
            · intro w_ hSw; (try dsimp only at hSw); go_simp <;> with_reducible rfl
            simp only [Act.put, List.setIfInBounds_toArray, List.set_cons_zero, List.set_cons_succ]
            refine wpAnyH_take (i := 2) (oi := ⟨some 65, _, _, _, _, _⟩) (v := ?_) rfl (by kernel_rfl) (by kernel_rfl) (by kernel_rfl) (fun _ _ _ h => h) (Or.inl ⟨by rfl, ?_⟩) (by assumption) ?_
            rotate_left
            · intro w_ hSw; (try dsimp only at hSw); go_simp <;> with_reducible rfl
            simp only [Act.put, List.setIfInBounds_toArray, List.set_cons_zero, List.set_cons_succ]
            refine wpAnyH_take (i := 3) (oi := ⟨some 66, _, _, _, _, _⟩) (v := ?_) rfl (by kernel_rfl) (by kernel_rfl) (by kernel_rfl) (fun _ _ _ h => h) (Or.inl ⟨by rfl, ?_⟩) (by assumption) ?_
            rotate_left
            · intro w_ hSw; (try dsimp only at hSw); go_simp <;> with_reducible rfl
            simp only [Act.put, List.setIfInBounds_toArray, List.set_cons_zero, List.set_cons_succ]
            refine wpAnyH_take (i := 4) (oi := ⟨some 67, _, _, _, _, _⟩) (v := ?_) rfl (by kernel_rfl) (by kernel_rfl) (by kernel_rfl) (fun _ _ _ h => h) (Or.inl ⟨by rfl, ?_⟩) (by assumption) ?_
            rotate_left
            · intro w_ hSw; (try dsimp only at hSw); have ce_ := HCE.out w_ (HBT.out w_ hSw.2); go_simp <;> with_reducible rfl
            simp only [Act.put, List.setIfInBounds_toArray, List.set_cons_zero, List.set_cons_succ]
            refine wpAnyH_take (i := 5) (oi := ⟨some 68, _, _, _, _, _⟩) (v := ?_) rfl (by kernel_rfl) (by kernel_rfl) (by kernel_rfl) (fun _ _ _ h => h) (Or.inl ⟨by rfl, ?_⟩) (by assumption) ?_
            rotate_left
            · intro w_ hSw; (try dsimp only at hSw); go_simp <;> with_reducible rfl
            simp only [Act.put, List.setIfInBounds_toArray, List.set_cons_zero, List.set_cons_succ]
            refine wpAnyH_take (i := 6) (oi := ⟨some 69, _, _, _, _, _⟩) (v := ?_) rfl (by kernel_rfl) (by kernel_rfl) (by kernel_rfl) (fun _ _ _ h => h) (Or.inl ⟨by rfl, ?_⟩) (by assumption) ?_
            rotate_left
            · intro w_ hSw; (try dsimp only at hSw); go_simp <;> with_reducible rfl
            simp only [Act.put, List.setIfInBounds_toArray, List.set_cons_zero, List.set_cons_succ]
            refine wpAnyH_take (i := 7) (oi := ⟨some 70, _, _, _, _, _⟩) (v := ?_) rfl (by kernel_rfl) (by kernel_rfl) (by kernel_rfl) (fun _ _ _ h => h) (Or.inl ⟨by rfl, ?_⟩) (by assumption) ?_
            rotate_left
            · intro w_ hSw; (try dsimp only at hSw); go_simp <;> with_reducible rfl
            simp only [Act.put, List.setIfInBounds_toArray, List.set_cons_zero, List.set_cons_succ]
            refine wpAnyH_take (i := 8) (oi := ⟨some 71, _, _, _, _, _⟩) (v := ?_) rfl (by kernel_rfl) (by kernel_rfl) (by kernel_rfl) (fun _ _ _ h => h) (Or.inl ⟨by rfl, ?_⟩) (by assumption) ?_
            rotate_left
            · intro w_ hSw; (try dsimp only at hSw); have cx_ := HCX.out w_ (HBT.out w_ hSw.2); go_simp <;> with_reducible rfl
            simp only [Act.put, List.setIfInBounds_toArray, List.set_cons_zero, List.set_cons_succ]
            refine wpAnyH_ready (rs := [9]) (by kernel_rfl) (by simp) ?_
            refine AllReadyH.cons (o := ⟨some 72, _, _, _, _, _⟩) rfl (fun K hK => ?_) ?_
            · go_simp
              obtain ⟨s0, s1⟩ := hHeld
              refine (rshas_any a A n c e X _ (HA.out _ (HBX.out _ (HBT.out _ s1))) (by have := HNA.out; omega)).mono ?_
              rw [HXA.out]
              rintro e_ u1 ⟨rfl, hbs⟩
              go_wp2_with fail
              refine hK.out _ _ ?_ (fun hHeld => ?_)
              · exact ⟨s0.under hbs s0.lt, s1.trans (hbs.mono s1.size)⟩
              clear hK K s0 s1
              try simp only [Act.put, List.setIfInBounds_toArray, List.set_cons_zero, List.set_cons_succ]
              refine wpAnyH_take (i := 10) (oi := ⟨some 15, _, _, _, _, _⟩) (v := ?_) rfl (by kernel_rfl) (by kernel_rfl) (by kernel_rfl) (fun _ _ _ h => h) (Or.inl ⟨by rfl, ?_⟩) (by assumption) ?_
              rotate_left
              · intro w_ hSw; (try dsimp only at hSw); go_simp <;> with_reducible rfl
              simp only [Act.put, List.setIfInBounds_toArray, List.set_cons_zero, List.set_cons_succ]
              refine wpAnyH_done (by kernel_rfl) ?_ _
              have HV := Lib.hid hHeld
              clear hHeld
              go_upto_region 20 with fail
              refine wp_region_held_drew (S := (fun W_ => Has W_ (w.heap.size) 104 #[.bool k.one, .bool k.other, .bool k.common] ∧ Below wv.heap.size wv W_)) (by kernel_rfl) ?_ (fun hHeld => ?_)
              · exact ⟨HV.out.1.draw, below_dr11 HV.out.2⟩
              refine wpAnyH_take (i := 0) (oi := ⟨some 73, _, _, _, _, _⟩) (v := ?_) rfl (by kernel_rfl) (by kernel_rfl) (by kernel_rfl) (fun _ _ _ h => h) (Or.inl ⟨by rfl, ?_⟩) (by assumption) ?_
              rotate_left
              · intro w_ hSw; (try dsimp only at hSw); go_simp <;> with_reducible rfl
              simp only [Act.put, List.setIfInBounds_toArray, List.set_cons_zero, List.set_cons_succ]
              refine wpAnyH_take (i := 1) (oi := ⟨some 74, _, _, _, _, _⟩) (v := ?_) rfl (by kernel_rfl) (by kernel_rfl) (by kernel_rfl) (fun _ _ _ h => h) (Or.inl ⟨by rfl, ?_⟩) (by assumption) ?_
              rotate_left
              · intro w_ hSw; (try dsimp only at hSw); go_simp <;> with_reducible rfl
              simp only [Act.put, List.setIfInBounds_toArray, List.set_cons_zero, List.set_cons_succ]
              refine wpAnyH_take (i := 2) (oi := ⟨some 75, _, _, _, _, _⟩) (v := ?_) rfl (by kernel_rfl) (by kernel_rfl) (by kernel_rfl) (fun _ _ _ h => h) (Or.inl ⟨by rfl, ?_⟩) (by assumption) ?_
              rotate_left
              · intro w_ hSw; (try dsimp only at hSw); go_simp <;> with_reducible rfl
              simp only [Act.put, List.setIfInBounds_toArray, List.set_cons_zero, List.set_cons_succ]
              refine wpAnyH_take (i := 3) (oi := ⟨some 76, _, _, _, _, _⟩) (v := ?_) rfl (by kernel_rfl) (by kernel_rfl) (by kernel_rfl) (fun _ _ _ h => h) (Or.inl ⟨by rfl, ?_⟩) (by assumption) ?_
              rotate_left
              · intro w_ hSw; (try dsimp only at hSw); go_simp <;> with_reducible rfl
              simp only [Act.put, List.setIfInBounds_toArray, List.set_cons_zero, List.set_cons_succ]
              refine wpAnyH_take (i := 4) (oi := ⟨some 77, _, _, _, _, _⟩) (v := ?_) rfl (by kernel_rfl) (by kernel_rfl) (by kernel_rfl) (fun _ _ _ h => h) (Or.inl ⟨by rfl, ?_⟩) (by assumption) ?_
              rotate_left
              · intro w_ hSw; (try dsimp only at hSw); have ce_ := HCE.out w_ (HBT.out w_ hSw.2); go_simp <;> with_reducible rfl
              simp only [Act.put, List.setIfInBounds_toArray, List.set_cons_zero, List.set_cons_succ]
              refine wpAnyH_take (i := 5) (oi := ⟨some 78, _, _, _, _, _⟩) (v := ?_) rfl (by kernel_rfl) (by kernel_rfl) (by kernel_rfl) (fun _ _ _ h => h) (Or.inl ⟨by rfl, ?_⟩) (by assumption) ?_
              rotate_left
              · intro w_ hSw; (try dsimp only at hSw); go_simp <;> with_reducible rfl
              simp only [Act.put, List.setIfInBounds_toArray, List.set_cons_zero, List.set_cons_succ]
              refine wpAnyH_take (i := 6) (oi := ⟨some 79, _, _, _, _, _⟩) (v := ?_) rfl (by kernel_rfl) (by kernel_rfl) (by kernel_rfl) (fun _ _ _ h => h) (Or.inl ⟨by rfl, ?_⟩) (by assumption) ?_
              rotate_left
              · intro w_ hSw; (try dsimp only at hSw); go_simp <;> with_reducible rfl
              simp only [Act.put, List.setIfInBounds_toArray, List.set_cons_zero, List.set_cons_succ]
              refine wpAnyH_take (i := 7) (oi := ⟨some 80, _, _, _, _, _⟩) (v := ?_) rfl (by kernel_rfl) (by kernel_rfl) (by kernel_rfl) (fun _ _ _ h => h) (Or.inl ⟨by rfl, ?_⟩) (by assumption) ?_
              rotate_left
              · intro w_ hSw; (try dsimp only at hSw); go_simp <;> with_reducible rfl
              simp only [Act.put, List.setIfInBounds_toArray, List.set_cons_zero, List.set_cons_succ]
              refine wpAnyH_take (i := 8) (oi := ⟨some 81, _, _, _, _, _⟩) (v := ?_) rfl (by kernel_rfl) (by kernel_rfl) (by kernel_rfl) (fun _ _ _ h => h) (Or.inl ⟨by rfl, ?_⟩) (by assumption) ?_
              rotate_left
              · intro w_ hSw; (try dsimp only at hSw); have cx_ := HCX.out w_ (HBT.out w_ hSw.2); go_simp <;> with_reducible rfl
              simp only [Act.put, List.setIfInBounds_toArray, List.set_cons_zero, List.set_cons_succ]
              refine wpAnyH_ready (rs := [9]) (by kernel_rfl) (by simp) ?_
              refine AllReadyH.cons (o := ⟨some 82, _, _, _, _, _⟩) rfl (fun K hK => ?_) ?_
              · go_simp
                obtain ⟨s0, s1⟩ := hHeld
                refine (rshas_any b B m d e X _ (HBB.out _ (HBX.out _ (HBT.out _ s1))) (by have := HNB.out; omega)).mono ?_
                rw [HXB.out]
                rintro e_ u2 ⟨rfl, hbs⟩
                go_wp2_with fail
                refine hK.out _ _ ?_ (fun hHeld => ?_)
                · exact ⟨s0.under hbs s0.lt, s1.trans (hbs.mono s1.size)⟩
                clear hK K s0 s1
                try simp only [Act.put, List.setIfInBounds_toArray, List.set_cons_zero, List.set_cons_succ]
                refine wpAnyH_take (i := 10) (oi := ⟨some 16, _, _, _, _, _⟩) (v := ?_) rfl (by kernel_rfl) (by kernel_rfl) (by kernel_rfl) (fun _ _ _ h => h) (Or.inl ⟨by rfl, ?_⟩) (by assumption) ?_
                rotate_left
                · intro w_ hSw; (try dsimp only at hSw); go_simp <;> with_reducible rfl
                simp only [Act.put, List.setIfInBounds_toArray, List.set_cons_zero, List.set_cons_succ]
                refine wpAnyH_done (by kernel_rfl) ?_ _
                have HV2 := Lib.hid (HBT.out _ hHeld.2)
                have HOV := Lib.hid (HO.out.under hHeld.2)
                clear hHeld HV HBT
                obtain ⟨wq, hwq⟩ : ∃ wq, wq = u2 := ⟨_, rfl⟩
                subst hwq
                have HGQ := Lib.hid (HGK.out wq HV2.out)
                go_upto_region 21 with fail
                go_wp2_with (with_reducible refine wpList_load_row (o := ⟨some 83, _, _, _, _, _⟩) rfl 104 _ rfl (w.heap.size) rfl 104 #[.bool k.one, .bool k.other, .bool k.common] (0, 0) _ (HGQ.out).raw11 Tryz.underlying104 rfl (by kernel_rfl) ?_)
                refine (rswant_any k xa xb wq).mono ?_
                rw [HZ.out]
                rintro e_ u3 ⟨rfl, hb⟩
                have HO3 := Lib.hid (HOV.out.under hb)
                have HB3 := Lib.hid (HV2.out.trans (hb.mono HV2.out.size))
                clear hb HOV HV2 HGQ HO HB
                cases z with
                | false =>
                  clear y1 y2
                  go_wp2
                  go_roundg (k2 - 1)
                  case measure => omega
                  case rel =>
                    exact ⟨j + 1, ko, co, Ao, out, false, by omega, by omega, by go_num, rfl, rfl, HO3, Lib.hid (by have h_ := HFT.out; rw [if_neg (by decide)] at h_; exact h_.symm), Lib.hid ⟨by have := HKO.out.1; omega, fun h => by cases h⟩, HB3⟩
                | true =>
                  cases op with
                  | true =>
                    have hko := HKO.out.2 (by first | rfl | trivial)
                    obtain ⟨o0, s, ho⟩ := snoc15 (l := out) (fun h => by have h1_ := HO3.out.2; rw [h] at h1_; have h2_ : ([] : List Sn3).length = 0 := rfl; omega)
                    subst ho
                    obtain ⟨go, rfl, hgo1, hgo2⟩ := HO3.out.some hko
                    have hol : o0.length = ko - 1 := by have h_ := HO3.out.2; simp at h_; omega
                    have hkb : ko ≤ 1000000 := by have := HKO.out.1; omega
                    have t0 : u3.cell? ⟨go, (ko - 1) * 3 + 2, none⟩ = some (.int .i64 s.hi) := by have h_ := HO3.out.sl.at_cell (f := snC) (fun _ => rfl) (by decide) (j := ko - 1) (x := s) (by rw [← hol]; simp) (i := 2) (u := .int .i64 s.hi) rfl; rw [Nat.zero_add] at h_; exact h_
                    have t1 : u3.frozen? ⟨go, (ko - 1) * 3 + 2, none⟩ = false := HO3.out.thaw _
                    have cy := HCY.out u3 HB3.out
                    have z1 : (0 : Int) ≤ (ko : Int) - 1 := by omega
                    have z2 : (ko : Int) - 1 < ko := by omega
                    have z3 : 1 ≤ ko := hko
                    obtain ⟨u4, hu4⟩ : ∃ u4, u3.setCell ⟨go, (ko - 1) * 3 + 2, none⟩ (.int .i64 Y) = u4 := ⟨_, rfl⟩
                    have HO4 := Lib.hid (show OwR _ _ _ _ u4 _ _ _ _ from by rw [← hu4]; exact own_hi15 HO3.out Y)
                    have HB4 := Lib.hid (show Below w3.heap.size w3 u4 from by rw [← hu4]; exact below_only HB3.out (only_store (only_refl _ (some go)) rfl _) HB3.out.size hgo1)
                    have HU4 := Lib.hid hu4
                    clear hu4 hol hgo1 hgo2
                    go_upto_region 26 with fail
                    rw [HU4.out]
                    clear HU4 t0 t1 cy z1 z2 z3 hkb
                    go_wp2
                    go_roundg (k2 - 1)
                    case measure => omega
                    case rel =>
                      exact ⟨j + 1, ko, co, _, _, true, by omega, by omega, by go_num, rfl, rfl, HO4, Lib.hid (by have h_ := HFT.out; simp only [ite_true] at h_; exact h_.symm), Lib.hid ⟨by have := HKO.out.1; omega, fun _ => hko⟩, HB4⟩
                  | false =>
                    have hwj2 : IntKind.i64.wrap ((j : Int) + 1) = (j : Int) + 1 := succ_j hjb
                    go_upto_region 25 with fail
                    refine wp_region_held_drew (S := (fun W_ => Below w3.heap.size w3 W_)) (by kernel_rfl) ?_ (fun hHeld => ?_)
                    · exact below_dr11 HB3.out
                    refine wpAnyH_take (i := 0) (oi := ⟨some 103, _, _, _, _, _⟩) (v := ?_) rfl (by kernel_rfl) (by kernel_rfl) (by kernel_rfl) (fun _ _ _ h => h) (Or.inl ⟨by rfl, ?_⟩) (by assumption) ?_
                    rotate_left
                    · intro w_ hSw; (try dsimp only at hSw); go_simp <;> with_reducible rfl
                    simp only [Act.put, List.setIfInBounds_toArray, List.set_cons_zero, List.set_cons_succ]
                    refine wpAnyH_take (i := 1) (oi := ⟨some 104, _, _, _, _, _⟩) (v := ?_) rfl (by kernel_rfl) (by kernel_rfl) (by kernel_rfl) (fun _ _ _ h => h) (Or.inl ⟨by rfl, ?_⟩) (by assumption) ?_
                    rotate_left
                    · intro w_ hSw; (try dsimp only at hSw); go_simp <;> with_reducible rfl
                    simp only [Act.put, List.setIfInBounds_toArray, List.set_cons_zero, List.set_cons_succ]
                    refine wpAnyH_take (i := 2) (oi := ⟨some 105, _, _, _, _, _⟩) (v := ?_) rfl (by kernel_rfl) (by kernel_rfl) (by kernel_rfl) (fun _ _ _ h => h) (Or.inl ⟨by rfl, ?_⟩) (by assumption) ?_
                    rotate_left
                    · intro w_ hSw; (try dsimp only at hSw); go_simp <;> with_reducible rfl
                    simp only [Act.put, List.setIfInBounds_toArray, List.set_cons_zero, List.set_cons_succ]
                    refine wpAnyH_take (i := 3) (oi := ⟨some 106, _, _, _, _, _⟩) (v := ?_) rfl (by kernel_rfl) (by kernel_rfl) (by kernel_rfl) (fun _ _ _ h => h) (Or.inl ⟨by rfl, ?_⟩) (by assumption) ?_
                    rotate_left
                    · intro w_ hSw; (try dsimp only at hSw); go_simp <;> with_reducible rfl
                    simp only [Act.put, List.setIfInBounds_toArray, List.set_cons_zero, List.set_cons_succ]
                    refine wpAnyH_take (i := 4) (oi := ⟨some 107, _, _, _, _, _⟩) (v := ?_) rfl (by kernel_rfl) (by kernel_rfl) (by kernel_rfl) (fun _ _ _ h => h) (Or.inl ⟨by rfl, ?_⟩) (by assumption) ?_
                    rotate_left
                    · intro w_ hSw; (try dsimp only at hSw); have ce_ := HCE.out w_ hSw; go_simp <;> with_reducible rfl
                    simp only [Act.put, List.setIfInBounds_toArray, List.set_cons_zero, List.set_cons_succ]
                    refine wpAnyH_take (i := 5) (oi := ⟨some 108, _, _, _, _, _⟩) (v := ?_) rfl (by kernel_rfl) (by kernel_rfl) (by kernel_rfl) (fun _ _ _ h => h) (Or.inl ⟨by rfl, ?_⟩) (by assumption) ?_
                    rotate_left
                    · intro w_ hSw; (try dsimp only at hSw); go_simp <;> with_reducible rfl
                    simp only [Act.put, List.setIfInBounds_toArray, List.set_cons_zero, List.set_cons_succ]
                    refine wpAnyH_take (i := 6) (oi := ⟨some 109, _, _, _, _, _⟩) (v := ?_) rfl (by kernel_rfl) (by kernel_rfl) (by kernel_rfl) (fun _ _ _ h => h) (Or.inl ⟨by rfl, ?_⟩) (by assumption) ?_
                    rotate_left
                    · intro w_ hSw; (try dsimp only at hSw); go_simp <;> with_reducible rfl
                    simp only [Act.put, List.setIfInBounds_toArray, List.set_cons_zero, List.set_cons_succ]
                    refine wpAnyH_take (i := 7) (oi := ⟨some 110, _, _, _, _, _⟩) (v := ?_) rfl (by kernel_rfl) (by kernel_rfl) (by kernel_rfl) (fun _ _ _ h => h) (Or.inl ⟨by rfl, ?_⟩) (by assumption) ?_
                    rotate_left
                    · intro w_ hSw; (try dsimp only at hSw); go_simp <;> with_reducible rfl
                    simp only [Act.put, List.setIfInBounds_toArray, List.set_cons_zero, List.set_cons_succ]
                    refine wpAnyH_take (i := 8) (oi := ⟨some 111, _, _, _, _, _⟩) (v := ?_) rfl (by kernel_rfl) (by kernel_rfl) (by kernel_rfl) (fun _ _ _ h => h) (Or.inl ⟨by rfl, ?_⟩) (by assumption) ?_
                    rotate_left
                    · intro w_ hSw; (try dsimp only at hSw); have cx_ := HCX.out w_ hSw; go_simp <;> with_reducible rfl
                    simp only [Act.put, List.setIfInBounds_toArray, List.set_cons_zero, List.set_cons_succ]
                    refine wpAnyH_take (i := 9) (oi := ⟨some 112, _, _, _, _, _⟩) (v := ?_) rfl (by kernel_rfl) (by kernel_rfl) (by kernel_rfl) (fun _ _ _ h => h) (Or.inl ⟨by rfl, ?_⟩) (by assumption) ?_
                    rotate_left
                    · intro w_ hSw; (try dsimp only at hSw); go_simp <;> with_reducible rfl
                    simp only [Act.put, List.setIfInBounds_toArray, List.set_cons_zero, List.set_cons_succ]
                    refine wpAnyH_take (i := 10) (oi := ⟨some 113, _, _, _, _, _⟩) (v := ?_) rfl (by kernel_rfl) (by kernel_rfl) (by kernel_rfl) (fun _ _ _ h => h) (Or.inl ⟨by rfl, ?_⟩) (by assumption) ?_
                    rotate_left
                    · intro w_ hSw; (try dsimp only at hSw); go_simp <;> with_reducible rfl
                    simp only [Act.put, List.setIfInBounds_toArray, List.set_cons_zero, List.set_cons_succ]
                    refine wpAnyH_take (i := 11) (oi := ⟨some 114, _, _, _, _, _⟩) (v := ?_) rfl (by kernel_rfl) (by kernel_rfl) (by kernel_rfl) (fun _ _ _ h => h) (Or.inl ⟨by rfl, ?_⟩) (by assumption) ?_
                    rotate_left
                    · intro w_ hSw; (try dsimp only at hSw); go_simp <;> with_reducible rfl
                    simp only [Act.put, List.setIfInBounds_toArray, List.set_cons_zero, List.set_cons_succ]
                    refine wpAnyH_take (i := 12) (oi := ⟨some 115, _, _, _, _, _⟩) (v := ?_) rfl (by kernel_rfl) (by kernel_rfl) (by kernel_rfl) (fun _ _ _ h => h) (Or.inl ⟨by rfl, ?_⟩) (by assumption) ?_
                    rotate_left
                    · intro w_ hSw; (try dsimp only at hSw); go_simp <;> with_reducible rfl
                    simp only [Act.put, List.setIfInBounds_toArray, List.set_cons_zero, List.set_cons_succ]
                    refine wpAnyH_take (i := 13) (oi := ⟨some 116, _, _, _, _, _⟩) (v := ?_) rfl (by kernel_rfl) (by kernel_rfl) (by kernel_rfl) (fun _ _ _ h => h) (Or.inl ⟨by rfl, ?_⟩) (by assumption) ?_
                    rotate_left
                    · intro w_ hSw; (try dsimp only at hSw); have cy_ := HCY.out w_ hSw; go_simp <;> with_reducible rfl
                    simp only [Act.put, List.setIfInBounds_toArray, List.set_cons_zero, List.set_cons_succ]
                    refine wpAnyH_take (i := 14) (oi := ⟨some 117, _, _, _, _, _⟩) (v := ?_) rfl (by kernel_rfl) (by kernel_rfl) (by kernel_rfl) (fun _ _ _ h => h) (Or.inl ⟨by rfl, ?_⟩) (by assumption) ?_
                    rotate_left
                    · intro w_ hSw; (try dsimp only at hSw); go_simp <;> with_reducible rfl
                    simp only [Act.put, List.setIfInBounds_toArray, List.set_cons_zero, List.set_cons_succ]
                    refine wpAnyH_ready (rs := [15]) (by kernel_rfl) (by simp) ?_
                    refine AllReadyH.cons (o := ⟨some 118, _, _, _, _, _⟩) rfl (fun K hK => ?_) AllReadyH.nil
                    go_simp
                    have HO4 := Lib.hid (show OwR snC 3 69 w3.heap.size u3.drew Ao ko co out from HO3.out.draws 1)
                    have hsz : w3.heap.size ≤ u3.drew.heap.size := HB3.out.size
                    obtain ⟨hN, hO, hC, h1, hBD⟩ := pushR (f := snC) (k := 3) (e := 69) 24 ⟨e, X, Y⟩ #[.int .i64 e, .int .i64 X, .int .i64 Y] rfl rfl (one_sn15 _) HO4.out hsz (by have := HKO.out.1; omega) (by omega)
                    have hbw : Below w3.heap.size w3 (u3.drew.alloc (.cells #[.int .i64 e, .int .i64 X, .int .i64 Y] 69)) := (below_dr11 HB3.out).alloc hsz _
                    have HBW4 := Lib.hid hbw
                    have HLN := Lib.hid HO4.out.2
                    refine hK.out _ _ ?_ (fun hHeld => ?_)
                    · exact hbw
                    clear hK K hHeld hbw
                    try simp only [Act.put, List.setIfInBounds_toArray, List.set_cons_zero, List.set_cons_succ]
                    refine wpAnyH_ready (rs := [16]) (by kernel_rfl) (by simp) ?_
                    refine AllReadyH.cons (o := ⟨some 119, _, _, _, _, _⟩) rfl (fun K hK => ?_) AllReadyH.nil
                    refine step_push (o := ⟨some 119, _, _, _, _, _⟩) rfl (.tmp 103) (.tmp 118) 44 rfl w3.heap.size 69 (.agg #[.int .i64 0, .int .i64 0, .int .i64 0]) 3 24 Tryz.underlying44 info_span15 rfl (by decide) Ao (ko) co (out.flatMap snC) rfl hO ⟨u3.drew.heap.size, 0, none⟩ 1 1 (snC ⟨e, X, Y⟩) rfl hN hC h1 hBD ?_
                    intro A5 c5 u5 ho hg
                    have HO5 := Lib.hid (OwR.snoc HLN.out ho.out)
                    have HB5 := Lib.hid (below_own HBW4.out HBW4.out.size hO.out (Nat.le_refl _) rfl hg.out)
                    refine hK.out _ _ ?_ (fun hHeld => ?_)
                    · exact HB5.out
                    clear hK K hHeld ho hg hN hO hC h1 hBD HBW4 HLN HO4 hsz
                    try simp only [Act.put, List.setIfInBounds_toArray, List.set_cons_zero, List.set_cons_succ]
                    refine wpAnyH_take (i := 17) (oi := ⟨some 11, _, _, _, _, _⟩) (v := ?_) rfl (by kernel_rfl) (by kernel_rfl) (by kernel_rfl) (fun _ _ _ h => h) (Or.inl ⟨by rfl, ?_⟩) (by assumption) ?_
                    rotate_left
                    · intro w_ hSw; (try dsimp only at hSw); go_simp <;> with_reducible rfl
                    simp only [Act.put, List.setIfInBounds_toArray, List.set_cons_zero, List.set_cons_succ]
                    refine wpAnyH_done (by kernel_rfl) ?_ _
                    go_wp2
                    go_roundg (k2 - 1)
                    case measure => omega
                    case rel =>
                      exact ⟨j + 1, ko + 1, c5, A5, _, true, by omega, by omega, by go_num, rfl, rfl, HO5, Lib.hid (by have h_ := HFT.out; simp only [ite_true, Bool.false_eq_true, ite_false] at h_; exact h_.symm), Lib.hid ⟨by have h_ := HFT.out; simp only [ite_true, Bool.false_eq_true, ite_false] at h_; have h1_ := HRL.out; rw [h_] at h1_; have h2_ := HO5.out.2; rw [← h2_]; exact Nat.le_trans (Nat.le_trans (fin15_ge15 _ _ _ _ _) (fin_ge15 _ _ _ _)) h1_, fun _ => by omega⟩, HB5⟩
              exact AllReadyH.nil
            exact AllReadyH.nil

end Go.Proofs.YteioefgckigbcaaGreat
