/-
  linesideref12, by contract: Same, Lists, Light.
-/
import Derived.Test.YtbohoejikihnfaaLkRefB

import Derived.BigQuiet

namespace Go.Proofs.Ytbohoejikihnfaa

open Go.RowKit

open Go.Great

set_option maxRecDepth 100000 in
set_option maxHeartbeats 8000000 in
theorem lsame_any {P Q : Nat → Prop} (a b : L0) (V : Bool) (hV : V = true ↔ a = b) (A : Option Addr) (c : Nat) (B : Option Addr) (d : Nat) (w : World) (ha : WsR P w A a.ws.length c a.ws) (hb : WsR Q w B b.ws.length d b.ws) (hbig : a.ws.length ≤ 1048576) :
    Calls Try.prog 12 #[.agg (lkC a A c), .agg (lkC b B d)] w fun e w' => e = .returned (.bool V) ∧ Below w.heap.size w w' := by
  obtain ⟨wa, hwa⟩ : ∃ wa, (w.alloc (.cells (lkC a A c) 24)).alloc (.cells (lkC b B d) 24) = wa := ⟨_, rfl⟩
  have hbwa : Below w.heap.size w wa := by rw [← hwa]; exact ((Below.refl _ _).alloc (Nat.le_refl _) _).alloc (by simp) _
  have h0 : Has wa (w.heap.size) 24 (lkC a A c) := by rw [← hwa]; exact ((Has.made _ _ _).beside _)
  have h1 : Has wa (w.heap.size + 1) 24 (lkC b B d) := by rw [← hwa]; exact (has_at11 (by simp))
  have HWA := Lib.hid hwa; have HBWA := Lib.hid hbwa
  have HX := Lib.hid (ha.under hbwa)
  have HY := Lib.hid (hb.under hbwa)
  have HC := Lib.hid (fun W (hW : Below wa.heap.size wa W) => And.intro (h0.under hW h0.lt) (h1.under hW h1.lt))
  clear hwa hbwa h0 h1 ha hb
  obtain ⟨p, m, q, h, ws⟩ := a
  obtain ⟨p', m', q', h', ws'⟩ := b
  unfold lkC at *
  dsimp only at *
  obtain ⟨n, hn⟩ : ∃ n, ws.length = n := ⟨_, rfl⟩
  obtain ⟨n', hn'⟩ : ∃ n', ws'.length = n' := ⟨_, rfl⟩
  rw [hn] at HWA HX HC hbig
  rw [hn'] at HWA HY HC
  simp only [hn, hn']
  have HN := Lib.hid hn; have HN' := Lib.hid hn'
  clear hn hn'
  have hSS : V = true ↔ (p = p' ∧ m = m' ∧ q = q' ∧ h = h' ∧ ws = ws') := by rw [hV]; simp
  have HS := Lib.hid hSS
  clear hV hSS
  obtain ⟨k0, k1⟩ := HC.out wa (Below.refl _ _)
  have c0 : wa.cell? ⟨w.heap.size, 0, none⟩ = some (.int .i64 p) := k0.cell 0
  have d0 : wa.cell? ⟨w.heap.size + 1, 0, none⟩ = some (.int .i64 p') := k1.cell 0
  have c1 : wa.cell? ⟨w.heap.size, 1, none⟩ = some (.int .i64 m) := k0.cell 1
  have d1 : wa.cell? ⟨w.heap.size + 1, 1, none⟩ = some (.int .i64 m') := k1.cell 1
  have c2 : wa.cell? ⟨w.heap.size, 2, none⟩ = some (.int .i64 q) := k0.cell 2
  have d2 : wa.cell? ⟨w.heap.size + 1, 2, none⟩ = some (.int .i64 q') := k1.cell 2
  have c3 : wa.cell? ⟨w.heap.size, 3, none⟩ = some (.int .i64 h) := k0.cell 3
  have d3 : wa.cell? ⟨w.heap.size + 1, 3, none⟩ = some (.int .i64 h') := k1.cell 3
  have c4 : wa.cell? ⟨w.heap.size, 4, none⟩ = some (.slice A n c) := k0.cell 4
  have d4 : wa.cell? ⟨w.heap.size + 1, 4, none⟩ = some (.slice B n' d) := k1.cell 4
  clear k0 k1
  go_enter Try.func12, Try.ntmps12
  go_upto_region 1 with fail
  rw [HWA.out]
  clear HWA
  by_cases hx0 : p = p'
  rotate_left
  · have e0 : (p != p') = true := by simp [hx0]
    obtain rfl : false = V := (Bool.eq_false_iff.2 (fun h_ => hx0 (HS.out.1 h_).1)).symm
    clear hx0 HS HX HY HC
    go_wp2
    go_ret
    exact ⟨rfl, HBWA.out⟩
  subst hx0
  by_cases hx1 : m = m'
  rotate_left
  · have e1 : (m != m') = true := by simp [hx1]
    obtain rfl : false = V := (Bool.eq_false_iff.2 (fun h_ => hx1 (HS.out.1 h_).2.1)).symm
    clear hx1 HS HX HY HC
    go_wp2
    go_ret
    exact ⟨rfl, HBWA.out⟩
  subst hx1
  by_cases hx2 : q = q'
  rotate_left
  · have e2 : (q != q') = true := by simp [hx2]
    obtain rfl : false = V := (Bool.eq_false_iff.2 (fun h_ => hx2 (HS.out.1 h_).2.2.1)).symm
    clear hx2 HS HX HY HC
    go_wp2
    go_ret
    exact ⟨rfl, HBWA.out⟩
  subst hx2
  by_cases hx3 : h = h'
  rotate_left
  · have e3 : (h != h') = true := by simp [hx3]
    obtain rfl : false = V := (Bool.eq_false_iff.2 (fun h_ => hx3 (HS.out.1 h_).2.2.2.1)).symm
    clear hx3 HS HX HY HC
    go_wp2
    go_ret
    exact ⟨rfl, HBWA.out⟩
  subst hx3
  by_cases hx4 : n = n'
  rotate_left
  · have e4 : (((n : Nat) : Int) != ((n' : Nat) : Int)) = true := by rw [bne_iff_ne]; omega
    obtain rfl : false = V := (Bool.eq_false_iff.2 (fun h_ => hx4 (by rw [← HN.out, ← HN'.out, (HS.out.1 h_).2.2.2.2]))).symm
    clear hx4 HS HX HY HC
    go_wp2
    go_ret
    exact ⟨rfl, HBWA.out⟩
  subst hx4
  have HS2 : Hid (V = true ↔ ws = ws') := Lib.hid (by rw [HS.out]; simp)
  clear HS
  go_upto_region 3 with fail
  clear c0 c1 c2 c3 d0 d1 d2 d3
  go_wp2
  go_loopg [5] n (fun kk v wl => ∃ j : Nat, j ≤ n ∧ n - j ≤ kk ∧ v = .int .i64 j ∧ (∀ i, i < j → ws[i]? = ws'[i]?) ∧ Below wa.heap.size wa wl)
  case atStart => exact ⟨0, by omega, by omega, rfl, fun i h => absurd h (by omega), Below.refl _ _⟩
  case round =>
    obtain ⟨j, hj, hjk, rfl, hok, hbl⟩ := hrel
    have HOK := Lib.hid hok; have HBL := Lib.hid hbl
    obtain ⟨k0, k1⟩ := HC.out wr hbl
    have c4 : wr.cell? ⟨w.heap.size, 4, none⟩ = some (.slice A n c) := k0.cell 4
    have d4 : wr.cell? ⟨w.heap.size + 1, 4, none⟩ = some (.slice B n d) := k1.cell 4
    clear k0 k1 hok hbl
    by_cases hlt : j < n
    rotate_left
    · obtain rfl : j = n := by omega
      obtain rfl : true = V := by
        refine (HS2.out.2 (List.ext_getElem? fun i => ?_)).symm
        by_cases hi : i < j
        · exact HOK.out i hi
        · rw [List.getElem?_eq_none (by rw [HN.out]; omega), List.getElem?_eq_none (by rw [HN'.out]; omega)]
      have x1 : ¬ (j : Int) < j := by omega
      have HBF := Lib.hid (HBWA.out.trans (HBL.out.mono HBWA.out.size))
      clear HS2 HOK HX HY HC HBL
      go_wp2
      go_ret
      exact ⟨rfl, HBF.out⟩
    obtain ⟨x, hx⟩ : ∃ x, ws[j]? = some x := ⟨_, List.getElem?_eq_getElem (by rw [HN.out]; exact hlt)⟩
    obtain ⟨y, hy⟩ : ∃ y, ws'[j]? = some y := ⟨_, List.getElem?_eq_getElem (by rw [HN'.out]; exact hlt)⟩
    obtain ⟨bk, off, v, rfl, hbk, hv, f0, f1, f2, f3⟩ := HX.out.body HBL.out hx
    obtain ⟨BA, bc, rfl, hbsx, hb8x⟩ := hv
    obtain ⟨wx, hwx⟩ : ∃ wx, wr.alloc (.cells #[.int .i64 x.t, .int .i64 x.due, .int .i64 x.tries, .slice BA x.body.length bc] 48) = wx := ⟨_, rfl⟩
    have hxx : Has wx wr.heap.size 48 #[.int .i64 x.t, .int .i64 x.due, .int .i64 x.tries, .slice BA x.body.length bc] := by rw [← hwx]; exact Has.made _ _ _
    have hsx : wx.heap.size = wr.heap.size + 1 := by rw [← hwx]; simp
    have hbx : Below wr.heap.size wr wx := by rw [← hwx]; exact (Below.refl _ _).alloc (Nat.le_refl _) _
    have hbwx := HBL.out.trans (hbx.mono HBL.out.size)
    obtain ⟨bm, oFm, u, rfl, hbm, hu, g0, g1, g2, g3⟩ := HY.out.body hbwx hy
    obtain ⟨BB, bd, rfl, hbsy, hb8y⟩ := hu
    have d4x : wx.cell? ⟨w.heap.size + 1, 4, none⟩ = some (.slice (some ⟨bm, oFm, none⟩) n d) := (HC.out wx hbwx).2.cell 4
    have hv : BodyR P wa (.slice BA x.body.length bc) x.body := ⟨BA, bc, rfl, hbsx, hb8x⟩
    have hu : BodyR Q wa (.slice BB y.body.length bd) y.body := ⟨BB, bd, rfl, hbsy, hb8y⟩
    have HXY : Hid (V = true → x = y) := Lib.hid (fun h_ => by have := HS2.out.1 h_; rw [this] at hx; rw [hx] at hy; exact Option.some.inj hy)
    have HEQ : Hid (x = y → ws[j]? = ws'[j]?) := Lib.hid (fun h_ => by rw [hx, hy, h_])
    obtain ⟨T, due, tries, body⟩ := x
    obtain ⟨T', due', tries', body'⟩ := y
    dsimp only at f0 f1 f2 f3 g0 g1 g2 g3 hv hu hwx hxx hbsx hb8x hbsy hb8y
    have y0 : (0 : Int) ≤ j := by omega
    have y1 : (j : Int) < n := by omega
    clear hx hy hbk hbm
    have h8 : (∀ z ∈ body, z < 256) ∧ (∀ z ∈ body', z < 256) := by obtain ⟨_, _, _, _, h1⟩ := hv; obtain ⟨_, _, _, _, h2⟩ := hu; exact ⟨h1.1, h2.1⟩
    have hsb := str8_beq12 h8.1 h8.2
    obtain ⟨wy, hwy⟩ : ∃ wy, wx.alloc (.cells #[.int .i64 T', .int .i64 due', .int .i64 tries', .slice BB body'.length bd] 48) = wy := ⟨_, rfl⟩
    have hx5 : Has wy wr.heap.size 48 #[.int .i64 T, .int .i64 due, .int .i64 tries, .slice BA body.length bc] := by rw [← hwy]; exact hxx.beside _
    have hy5 : Has wy (wr.heap.size + 1) 48 #[.int .i64 T', .int .i64 due', .int .i64 tries', .slice BB body'.length bd] := by rw [← hwy]; exact has_at11 hsx
    have hby : Below wa.heap.size wa wy := by rw [← hwy]; exact hbwx.alloc hbwx.size _
    have hv1 := (hv.under hby).conv
    have hu1 := (hu.under hby).conv
    have a0 : wy.cell? ⟨wr.heap.size, 0, none⟩ = some (.int .i64 T) := hx5.cell 0
    have b0 : wy.cell? ⟨wr.heap.size + 1, 0, none⟩ = some (.int .i64 T') := hy5.cell 0
    have a1 : wy.cell? ⟨wr.heap.size, 1, none⟩ = some (.int .i64 due) := hx5.cell 1
    have b1 : wy.cell? ⟨wr.heap.size + 1, 1, none⟩ = some (.int .i64 due') := hy5.cell 1
    have a2 : wy.cell? ⟨wr.heap.size, 2, none⟩ = some (.int .i64 tries) := hx5.cell 2
    have b2 : wy.cell? ⟨wr.heap.size + 1, 2, none⟩ = some (.int .i64 tries') := hy5.cell 2
    have a3 : wy.cell? ⟨wr.heap.size, 3, none⟩ = some (.slice BA body.length bc) := hx5.cell 3
    have b3 : wy.cell? ⟨wr.heap.size + 1, 3, none⟩ = some (.slice BB body'.length bd) := hy5.cell 3
    have HWY := Lib.hid hwy; have HWX := Lib.hid hwx; have HSX := Lib.hid hsx
    have HBY := Lib.hid hby
    have HBF := Lib.hid (HBWA.out.trans (HBY.out.mono HBWA.out.size))
    clear hwy hx5 hy5 hby h8 hv hu hwx hxx hsx hbx hbwx hbsx hb8x hbsy hb8y
    obtain ⟨EB, hEB⟩ : ∃ EB, decide (body = body') = EB := ⟨_, rfl⟩
    rw [hEB] at hsb
    have hsn : ((str8 body).toList != (str8 body').toList) = !EB := by rw [bne, hsb]
    go_upto_region 7 with fail
    rw [HWX.out]
    clear HWX f0 f1 f2 f3 c4 d4
    go_upto_region 8 with fail
    simp only [HSX.out]
    rw [HWY.out]
    clear HWY HSX g0 g1 g2 g3 d4x
    by_cases hq0 : T = T'
    rotate_left
    · have e0 : (T != T') = true := by simp [hq0]
      have HQ := Lib.hid hq0
      clear hq0
      obtain rfl : false = V := (Bool.eq_false_iff.2 (fun h_ => HQ.out (congrArg W0.t (HXY.out h_)))).symm
      clear HS2 HX HY HC HOK HXY HEQ
      go_wp2
      go_ret
      exact ⟨rfl, HBF.out⟩
    subst hq0
    by_cases hq1 : due = due'
    rotate_left
    · have e1 : (due != due') = true := by simp [hq1]
      have HQ := Lib.hid hq1
      clear hq1
      obtain rfl : false = V := (Bool.eq_false_iff.2 (fun h_ => HQ.out (congrArg W0.due (HXY.out h_)))).symm
      clear HS2 HX HY HC HOK HXY HEQ
      go_wp2
      go_ret
      exact ⟨rfl, HBF.out⟩
    subst hq1
    by_cases hq2 : tries = tries'
    rotate_left
    · have e2 : (tries != tries') = true := by simp [hq2]
      have HQ := Lib.hid hq2
      clear hq2
      obtain rfl : false = V := (Bool.eq_false_iff.2 (fun h_ => HQ.out (congrArg W0.tries (HXY.out h_)))).symm
      clear HS2 HX HY HC HOK HXY HEQ
      go_wp2
      go_ret
      exact ⟨rfl, HBF.out⟩
    subst hq2
    cases EB with
    | false =>
      have hb0 : ¬ body = body' := of_decide_eq_false hEB
      have HQ := Lib.hid hb0
      clear hb0 hEB
      obtain rfl : false = V := (Bool.eq_false_iff.2 (fun h_ => HQ.out (congrArg W0.body (HXY.out h_)))).symm
      clear HS2 HX HY HC HOK HXY HEQ
      go_wp2
      go_ret
      exact ⟨rfl, HBF.out⟩
    | true =>
      obtain rfl : body = body' := of_decide_eq_true hEB
      have HE := Lib.hid (HEQ.out rfl)
      clear hEB
      go_wp2
      go_roundg (gk - 1)
      case measure => omega
      case rel =>
        refine ⟨j + 1, by omega, by omega, by go_num, fun i hi => ?_, HBY.out⟩
        by_cases h_ : i = j
        · subst h_; exact HE.out
        · exact HOK.out i (by omega)

set_option maxRecDepth 100000 in
set_option maxHeartbeats 8000000 in
theorem llists_any {P Q : Nat → Prop} (a b : List (List Nat)) (V : Bool) (hV : V = true ↔ a = b) (A : Option Addr) (c : Nat) (B : Option Addr) (d : Nat) (w : World) (ha : LsR P w A a.length c a) (hb : LsR Q w B b.length d b) (hbig : a.length ≤ 1048576) :
    Calls Try.prog 19 #[.slice A a.length c, .slice B b.length d] w fun e w' => e = .returned (.bool V) ∧ Below w.heap.size w w' := by
  have HX := Lib.hid ha; have HY := Lib.hid hb; have HVV := Lib.hid hV
  clear ha hb hV
  obtain ⟨n, hn⟩ : ∃ n, a.length = n := ⟨_, rfl⟩
  obtain ⟨n', hn'⟩ : ∃ n', b.length = n' := ⟨_, rfl⟩
  rw [hn] at HX hbig
  rw [hn'] at HY
  simp only [hn, hn']
  have HN := Lib.hid hn; have HN' := Lib.hid hn'
  clear hn hn'
  by_cases hx : n = n'
  rotate_left
  · have e0 : (((n : Nat) : Int) != ((n' : Nat) : Int)) = true := by rw [bne_iff_ne]; omega
    have hne : ¬ a = b := fun h_ => hx (by rw [← HN.out, ← HN'.out, h_])
    obtain rfl : false = V := (Bool.eq_false_iff.2 (fun h_ => hne (HVV.out.1 h_))).symm
    clear hne hx HX HY HVV
    go_enter Try.func19, Try.ntmps19
    go_wp2
    go_ret
    exact ⟨rfl, Below.refl _ _⟩
  subst hx
  go_enter Try.func19, Try.ntmps19
  go_wp2
  go_loopg [5] n (fun kk v wl => ∃ j : Nat, j ≤ n ∧ n - j ≤ kk ∧ v = .int .i64 j ∧ (∀ i, i < j → a[i]? = b[i]?) ∧ ∃ q, wl = w.drewN q)
  case atStart => exact ⟨0, by omega, by omega, rfl, fun i h => absurd h (by omega), 0, rfl⟩
  case round =>
    obtain ⟨j, hj, hjk, rfl, hok, q, hq⟩ := hrel
    have HOK := Lib.hid hok; have HQ := Lib.hid hq
    have hbl : Below w.heap.size w wr := by rw [hq]; exact below_draws (Below.refl _ _) q
    have HBL := Lib.hid hbl
    clear hok hq
    by_cases hlt : j < n
    rotate_left
    · obtain rfl : j = n := by omega
      have hST : a = b := by
        refine List.ext_getElem? fun i => ?_
        by_cases hi : i < j
        · exact HOK.out i hi
        · rw [List.getElem?_eq_none (by rw [HN.out]; omega), List.getElem?_eq_none (by rw [HN'.out]; omega)]
      obtain rfl : true = V := (HVV.out.2 hST).symm
      have x1 : ¬ (j : Int) < j := by omega
      clear hST HOK HX HY hbl HVV
      go_wp2
      go_ret
      exact ⟨rfl, HBL.out⟩
    obtain ⟨x, hx⟩ : ∃ x, a[j]? = some x := ⟨_, List.getElem?_eq_getElem (by rw [HN.out]; exact hlt)⟩
    obtain ⟨y, hy⟩ : ∃ y, b[j]? = some y := ⟨_, List.getElem?_eq_getElem (by rw [HN'.out]; exact hlt)⟩
    obtain ⟨bk, off, v, rfl, hv, f0⟩ := (HX.out.under hbl).at_ hx
    obtain ⟨bm, oFm, u, rfl, hu, g0⟩ := (HY.out.under hbl).at_ hy
    have HXY : Hid (a = b → x = y) := Lib.hid (fun h_ => by rw [h_] at hx; rw [hx] at hy; exact Option.some.inj hy)
    have HEQ : Hid (x = y → a[j]? = b[j]?) := Lib.hid (fun h_ => by rw [hx, hy, h_])
    have y0 : (0 : Int) ≤ j := by omega
    have y1 : (j : Int) < n := by omega
    clear hx hy
    have h8 : (∀ z ∈ x, z < 256) ∧ (∀ z ∈ y, z < 256) := by obtain ⟨_, _, _, _, h1⟩ := hv; obtain ⟨_, _, _, _, h2⟩ := hu; exact ⟨h1.1, h2.1⟩
    have hsb := str8_beq12 h8.1 h8.2
    have hv1 := hv.conv
    have hu1 := hu.conv
    have hv1' := (hv.under (below_draws (Below.refl _ _) 1)).conv
    have hu1' := (hu.under (below_draws (Below.refl _ _) 1)).conv
    obtain ⟨EB, hEB⟩ : ∃ EB, decide (x = y) = EB := ⟨_, rfl⟩
    rw [hEB] at hsb
    have hsn : ((str8 x).toList != (str8 y).toList) = !EB := by rw [bne, hsb]
    have HCV := Lib.hid (fun W (hW : Below wr.heap.size wr W) => And.intro ((hW.cell (cell_block f0)).trans f0) (And.intro ((hW.cell (cell_block g0)).trans g0) (And.intro (hv.under hW).conv (hu.under hW).conv)))
    obtain ⟨BA, bc, rfl, -⟩ := hv
    obtain ⟨BB, bd, rfl, -⟩ := hu
    clear h8 hbl hv1 hu1 hv1' hu1'
    go_upto_region 6 with fail
    cases EB with
    | false =>
      have hb0 : ¬ x = y := of_decide_eq_false hEB
      have hne : ¬ a = b := fun h_ => hb0 (HXY.out h_)
      obtain rfl : false = V := (Bool.eq_false_iff.2 (fun h_ => hne (HVV.out.1 h_))).symm
      clear hb0 hEB hne HVV
      obtain ⟨_, _, cv1, cv2⟩ := HCV.out wr.drew (below_dr11 (Below.refl _ _))
      go_region_held3 (fun w' => w'.cell? ⟨bk, off + j, none⟩ = some (.slice BA x.length bc) ∧ w'.cell? ⟨bm, oFm + j, none⟩ = some (.slice BB y.length bd) ∧ (convert 25 9 (.slice BA x.length bc)).run Try.prog w' = .ok (.string (str8 x)) w' ∧ (convert 25 9 (.slice BB y.length bd)).run Try.prog w' = .ok (.string (str8 y)) w') (first | go_keep | exact ⟨cv1, cv2⟩ | exact HCV.out _ (Below.refl _ _) | exact HCV.out _ (below_draws (Below.refl _ _) 1) | exact HCV.out _ (below_dr11 (Below.refl _ _)) | exact HCV.out _ (by assumption)) (first | fail)
      go_wp2
      go_ret
      exact ⟨rfl, below_dr11 HBL.out⟩
    | true =>
      obtain rfl : x = y := of_decide_eq_true hEB
      have HE := Lib.hid (HEQ.out rfl)
      clear hEB
      obtain ⟨_, _, cv1, cv2⟩ := HCV.out wr.drew (below_dr11 (Below.refl _ _))
      go_region_held3 (fun w' => w'.cell? ⟨bk, off + j, none⟩ = some (.slice BA x.length bc) ∧ w'.cell? ⟨bm, oFm + j, none⟩ = some (.slice BB x.length bd) ∧ (convert 25 9 (.slice BA x.length bc)).run Try.prog w' = .ok (.string (str8 x)) w' ∧ (convert 25 9 (.slice BB x.length bd)).run Try.prog w' = .ok (.string (str8 x)) w') (first | go_keep | exact ⟨cv1, cv2⟩ | exact HCV.out _ (Below.refl _ _) | exact HCV.out _ (below_draws (Below.refl _ _) 1) | exact HCV.out _ (below_dr11 (Below.refl _ _)) | exact HCV.out _ (by assumption)) (first | fail)
      go_wp2
      go_roundg (gk - 1)
      case measure => omega
      case rel =>
        refine ⟨j + 1, by omega, by omega, by go_num, fun i hi => ?_, q + 1, by rw [HQ.out]; rfl⟩
        by_cases h_ : i = j
        · subst h_; exact HE.out
        · exact HOK.out i (by omega)

set_option maxRecDepth 100000 in
set_option maxHeartbeats 8000000 in
theorem llight_any {P : Nat → Prop} (l : L0) (A : Option Addr) (c : Nat) (w : World) (hw : WsR P w A l.ws.length c l.ws) :
    Calls Try.prog 9 #[.agg (lkC l A c)] w fun e w' => e = .returned (.bool (lightL l)) ∧ Below w.heap.size w w' := by
  obtain ⟨wa, hwa⟩ : ∃ wa, w.alloc (.cells (lkC l A c) 24) = wa := ⟨_, rfl⟩
  have hbwa : Below w.heap.size w wa := by rw [← hwa]; exact (Below.refl _ _).alloc (Nat.le_refl _) _
  have h0 : Has wa (w.heap.size) 24 (lkC l A c) := by rw [← hwa]; exact (Has.made _ _ _)
  have HWA := Lib.hid hwa; have HBWA := Lib.hid hbwa
  have HW := Lib.hid (hw.under hbwa)
  have hlk := h0
  obtain ⟨p, m, q, h, ws⟩ := l
  obtain ⟨b, hb⟩ : ∃ b, lightL ⟨p, m, q, h, ws⟩ = b := ⟨_, rfl⟩
  rw [hb]
  unfold lightL at hb
  unfold lkC at *
  dsimp only at *
  obtain ⟨n, hn⟩ : ∃ n, ws.length = n := ⟨_, rfl⟩
  rw [hn] at HWA HW hb hlk
  simp only [hn]
  have HN := Lib.hid hn
  have HBB := Lib.hid hb
  have c4 : wa.cell? ⟨w.heap.size, 4, none⟩ = some (.slice A n c) := hlk.cell 4
  clear hwa hbwa h0 hw hn hb hlk
  by_cases h50 : (50 : Int) < n
  · obtain rfl : false = b := by rw [← HBB.out, decide_eq_false (by omega)]; rfl
    clear HBB
    go_enter Try.func9, Try.ntmps9
    go_upto_region 1 with fail
    rw [HWA.out]
    clear HWA
    go_wp2
    go_ret
    exact ⟨rfl, HBWA.out⟩
  go_enter Try.func9, Try.ntmps9
  go_upto_region 1 with fail
  rw [HWA.out]
  clear HWA
  go_wp2
  go_loopg [3] n (fun kk v wl => ∃ j : Nat, j ≤ n ∧ n - j ≤ kk ∧ v = .int .i64 j ∧ (∀ i x, i < j → ws[i]? = some x → x.body.length ≤ 2000) ∧ wl = wa)
  case atStart => exact ⟨0, by omega, by omega, rfl, fun i x h => absurd h (by omega), rfl⟩
  case round =>
    obtain ⟨j, hj, hjk, rfl, hok, rfl⟩ := hrel
    have HOK := Lib.hid hok
    clear hok
    by_cases hlt : j < n
    rotate_left
    · obtain rfl : j = n := by omega
      obtain rfl : true = b := by
        rw [← HBB.out, decide_eq_true (by omega), Bool.true_and]
        symm
        rw [List.all_eq_true]
        intro x hx
        obtain ⟨i, hi, rfl⟩ := List.getElem_of_mem hx
        exact decide_eq_true (HOK.out i _ (by rw [← HN.out]; exact hi) (List.getElem?_eq_getElem hi))
      have x1 : ¬ (j : Int) < j := by omega
      clear HOK HBB HW
      go_wp2
      go_ret
      exact ⟨rfl, HBWA.out⟩
    obtain ⟨x, hx⟩ : ∃ x, ws[j]? = some x := ⟨_, List.getElem?_eq_getElem (by rw [HN.out]; exact hlt)⟩
    obtain ⟨bk, off, v, rfl, hv, -, -, -, f3⟩ := HW.out.at_ hx
    have HX := Lib.hid hx
    obtain ⟨T, due, tries, body⟩ := x
    dsimp only at f3 hv
    obtain ⟨BA, bc, rfl, -⟩ := hv
    have y0 : (0 : Int) ≤ j := by omega
    have y1 : (j : Int) < n := by omega
    clear hx
    by_cases h2 : (2000 : Int) < (body.length : Int)
    · obtain rfl : false = b := by
        rw [← HBB.out]
        symm
        rw [Bool.and_eq_false_iff]
        refine .inr ?_
        rw [List.all_eq_false]
        exact ⟨_, List.mem_of_getElem? HX.out, by simp; omega⟩
      clear HOK HBB HW
      go_wp2
      go_ret
      exact ⟨rfl, HBWA.out⟩
    have HB2 := Lib.hid h2
    go_wp2
    go_roundg (gk - 1)
    case measure => omega
    case rel =>
      refine ⟨j + 1, by omega, by omega, by go_num, fun i x hi hx => ?_, rfl⟩
      by_cases h_ : i = j
      · subst h_; rw [HX.out] at hx; cases hx; have := HB2.out; dsimp only; omega
      · exact HOK.out i x (by omega) hx
end Go.Proofs.Ytbohoejikihnfaa
