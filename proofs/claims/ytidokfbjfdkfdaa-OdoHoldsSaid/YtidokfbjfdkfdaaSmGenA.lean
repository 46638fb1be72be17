/-
  Package sort's own text: symMerge_func, two or more on either side, the middle below the seam.
-/
import Derived.Test.YtidokfbjfdkfdaaSmDone
namespace Go.Proofs.Ytidokfbjfdkfdaa
open Go.RowKit Go.Sort Go.Lib
open Sm
variable {α : Type} [Inhabited α]

set_option maxHeartbeats 8000000 in
set_option maxRecDepth 100000 in
theorem sym_above (K : α → Int) (T : α → Nat) (enc : α → Value) (g : Nat) (lb : Array Value) (sf : Nat) (sb : Array Value) (blk off a m b : Nat) (d : Array α) (W : World)
    (eg : ∀ args w, (callFunc g args).run Try.prog w = .ok (.enter g args) w) (hless : LessReads Try.prog g lb enc (fun x y => decide (K x < K y)) blk off d.size W)
    (hswap : SwapSwaps Try.prog sf sb enc blk off d.size) (hH : Holds enc W blk off d) (hblk : blk < W.heap.size) (ham : a + 1 < m) (hmb : m + 1 < b) (hb : b ≤ d.size) (hsz : d.size < 1099511627776)
    (h1 : Srt K T (pl d) a m) (h2 : Srt K T (pl d) m b) (ht : Tag T (pl d) a m b) (hmid : (a + b) / 2 < m) (IH : SymOk K T enc g lb sf sb blk off d.size (b - a)) :
    Calls Try.prog 62 #[.agg #[.func (.func g) #[] lb, .func (.func sf) #[] sb], .int .i64 a, .int .i64 m, .int .i64 b] W fun e w' =>
      e = .returned (.tuple #[]) ∧ ∃ d', d'.size = d.size ∧ PermIn a b d d' ∧ Srt K T (pl d') a b ∧ SW enc W blk off d' w' := by
  have HSW := hid hswap
  have hH1 := holds_alloc hH hblk (.cells #[.func (.func g) #[] lb, .func (.func sf) #[] sb] 54)
  have HL := hid (((SW.start hH).alloc (.cells #[.func (.func g) #[] lb, .func (.func sf) #[] sb] 54)).lessReads hless hblk rfl)
  have HH := hid hH
  have HH1 := hid hH1
  have HS1 := hid h1
  have HS2 := hid h2
  have HT := hid ht
  have HI := hid IH
  have hblk1 : blk < (W.alloc (.cells #[.func (.func g) #[] lb, .func (.func sf) #[] sb] 54)).heap.size := by simp; omega
  have y0 : (((m : Int) - (a : Int)) == 1) = false := by simp; omega
  have y1 : (((b : Int) - (m : Int)) == 1) = false := by simp; omega
  obtain ⟨mid, hmd⟩ : ∃ mid, (a + b) / 2 = mid := ⟨_, rfl⟩
  rw [hmd] at hmid
  obtain ⟨z1, z2⟩ := half_wrap (a + b) (by omega)
  rw [hmd] at z2
  rw [Int.natCast_add] at z1 z2
  have y2 : decide ((mid : Int) < m) = true := decide_eq_true (by omega)
  have y2' : (mid : Int) < m := by omega
  obtain ⟨lo, hlo⟩ : ∃ lo, mid + m - b = lo := ⟨_, rfl⟩
  have y3 : (mid : Int) + m - b = lo := by omega
  clear hswap hH hH1 h1 h2 ht hless IH
  go_enter Try.func62, Try.ntmps62
  go_wp2
  go_loopg [18, 19] (mid - lo) (fun kk vi vj wr => ∃ i j : Nat, vi = .int .i64 i ∧ vj = .int .i64 j ∧ lo ≤ i ∧ i ≤ j ∧ j ≤ mid ∧ j - i ≤ kk ∧ (∀ c, lo ≤ c → c < i → ¬ K (pl d (mid + m - 1 - c)) < K (pl d c)) ∧ (∀ c, j ≤ c → c < mid → K (pl d (mid + m - 1 - c)) < K (pl d c)) ∧ SW enc (W.alloc (.cells #[.func (.func g) #[] lb, .func (.func sf) #[] sb] 54)) blk off d wr)
  case atStart => exact ⟨lo, mid, by rw [← y3], rfl, by omega, by omega, by omega, by omega, fun c h1 h2 => by omega, fun c h1 h2 => by omega, SW.start HH1.out⟩
  case round =>
    obtain ⟨i, j, rfl, rfl, hli, hij, hjh, hk, hno, hyes, hw⟩ := hrel
    have c0 : wr.cell? ⟨W.heap.size, 0, none⟩ = some (.func (.func g) #[] lb) := sw_far hw (by omega) (by simp)
    have c1 : wr.cell? ⟨W.heap.size, 1, none⟩ = some (.func (.func sf) #[] sb) := sw_far hw (by omega) (by simp)
    by_cases hlt : i < j
    · obtain ⟨c, hh⟩ : ∃ c, (i + j) / 2 = c := ⟨_, rfl⟩
      have hc : Calls Try.prog g (#[.int .i64 (mid + m - 1 - c : Nat), .int .i64 c] ++ lb) wr fun e w' => e = .returned (.bool (decide (K (pl d (mid + m - 1 - c)) < K (pl d c)))) ∧ ∃ q, w' = wr.drewN q := hw.less HL.out rfl (mid + m - 1 - c) c (by omega) (by omega)
      rw [show ((mid + m - 1 - c : Nat) : Int) = (mid : Int) + m - 1 - c by omega] at hc
      obtain ⟨z3, z4⟩ := half_wrap (i + j) (by omega)
      rw [hh] at z4
      rw [Int.natCast_add] at z3 z4
      have x1 : (i : Int) < j := by omega
      have HW := hid hw; have HNO := hid hno; have HYES := hid hyes
      clear hw hno hyes
      by_cases hk2 : K (pl d (mid + m - 1 - c)) < K (pl d c)
      · rw [decide_eq_true hk2] at hc
        have hy2 : ∀ t, c ≤ t → t < mid → K (pl d (mid + m - 1 - t)) < K (pl d t) := by
          intro t t1 t2
          have k1 := HS1.out.keys (i := c) (j := t) (by omega) t1 (by omega)
          have k2 := HS2.out.keys (i := mid + m - 1 - t) (j := mid + m - 1 - c) (by omega) (by omega) (by omega)
          omega
        have HC := hid hc; have HY2 := hid hy2
        clear hc hy2 hk2
        go_wp2_with fail
        refine HC.out.mono ?_
        rintro e w' ⟨rfl, q, rfl⟩
        go_wp2
        go_roundg (gk - 1)
        case measure => omega
        case rel => exact ⟨i, c, rfl, rfl, by omega, by omega, by omega, by omega, HNO.out, HY2.out, HW.out.drewN q⟩
      · rw [decide_eq_false hk2] at hc
        have hn2 : ∀ t, lo ≤ t → t < c + 1 → ¬ K (pl d (mid + m - 1 - t)) < K (pl d t) := by
          intro t t1 t2
          have k1 := HS1.out.keys (i := t) (j := c) (by omega) (by omega) (by omega)
          have k2 := HS2.out.keys (i := mid + m - 1 - c) (j := mid + m - 1 - t) (by omega) (by omega) (by omega)
          omega
        have HC := hid hc; have HN2 := hid hn2
        clear hc hn2 hk2
        go_wp2_with fail
        refine HC.out.mono ?_
        rintro e w' ⟨rfl, q, rfl⟩
        go_wp2
        go_roundg (gk - 1)
        case measure => omega
        case rel => exact ⟨c + 1, j, by go_num, rfl, by omega, by omega, by omega, by omega, HN2.out, HYES.out, HW.out.drewN q⟩
    · obtain rfl : i = j := by omega
      have hcut : Cut K (pl d) a m b mid i := ⟨hmd, fun _ => ⟨by omega, by omega⟩, fun k => by omega, fun c c1 _ c2 => hno c (by have := c1 hmid; omega) c2, fun c c1 c2 _ => hyes c c1 (c2 hmid)⟩
      have hbd := hcut.bounds (by omega) (by omega)
      have hcr := hcut.cross (by omega) (by omega) HS1.out HS2.out HT.out
      have hru := hcut.runs (by omega) (by omega) HS1.out HS2.out HT.out
      obtain ⟨e, he⟩ : ∃ e, mid + m - i = e := ⟨_, rfl⟩
      rw [he] at hbd hcr hru
      have z5 : (mid : Int) + m - i = e := by omega
      have HCR := hid hcr; have HRU := hid hru; have HW := hid hw
      clear hcut hcr hru hno hyes hw
      have gid : gk = gk := rfl
      by_cases r1 : i < m ∧ m < e
      · have x1 : (i : Int) < m := by omega
        have x2 : (m : Int) < e := by omega
        have hHw : Holds enc wr blk off d := HW.out.holds hblk1 HH1.out rfl
        have hc := rotate_any enc g lb sf sb blk off i m e d wr HSW.out hHw (HW.out.lt hblk1) r1.1 r1.2 (by omega) hsz
        have HC := hid hc
        clear hc hHw
        go_wp2_with fail
        refine HC.out.mono ?_
        rintro e' w1 ⟨rfl, d1, ed1, hv1, pp1, sw1⟩
        have sw1 := sw_onto HW.out hblk1 sw1 ed1
        have p1 : PermIn a b d d1 := permIn_mono _ _ i e a b (by omega) (by omega) hb pp1
        clear pp1
        have hru := HRU.out
        have hcr1 := HCR.out
        rw [← hv1] at hru hcr1
        obtain ⟨u1, u2, u3, u4, u5, u6⟩ := hru
        by_cases r2 : a < i ∧ i < mid
        · have x3 : (a : Int) < i := by omega
          have x4 : (i : Int) < mid := by omega
          have c0 : w1.cell? ⟨W.heap.size, 0, none⟩ = some (.func (.func g) #[] lb) := sw_far sw1 (by omega) (by simp)
          have c1 : w1.cell? ⟨W.heap.size, 1, none⟩ = some (.func (.func sf) #[] sb) := sw_far sw1 (by omega) (by simp)
          have hHw : Holds enc w1 blk off d1 := sw1.holds hblk1 HH1.out ed1
          have hc := HI.out a i mid d1 w1 ed1 (by omega) r2.1 r2.2 (by omega) (sw1.lessReads HL.out hblk1 ed1) hHw (sw1.lt hblk1) u1 u2 u3
          have HC := hid hc; have SW1 := hid sw1; have HCR1 := hid hcr1; have HU := hid (And.intro u4 (And.intro u5 u6)); have HP1 := hid p1
          clear hc hHw sw1 hcr1 u1 u2 u3 u4 u5 u6 p1 hv1
          go_wp2_with fail
          refine HC.out.mono ?_
          rintro e' w2 ⟨rfl, d2, ed2, p2, s2, sw2⟩
          have sw2 := sw_onto SW1.out hblk1 sw2 (by omega)
          have hcr1 := HCR1.out; have p1 := HP1.out
          obtain ⟨u4, u5, u6⟩ := HU.out
          by_cases r3 : mid < e ∧ e < b
          · have x5 : (mid : Int) < e := by omega
            have x6 : (e : Int) < b := by omega
            have c0 : w2.cell? ⟨W.heap.size, 0, none⟩ = some (.func (.func g) #[] lb) := sw_far sw2 (by omega) (by simp)
            have c1 : w2.cell? ⟨W.heap.size, 1, none⟩ = some (.func (.func sf) #[] sb) := sw_far sw2 (by omega) (by simp)
            have hHw : Holds enc w2 blk off d2 := sw2.holds hblk1 HH1.out ed2
            have v4 := u4.congr (g := pl d2) (fun t t1 _ => perm_pl p2 (.inr t1))
            have v5 := u5.congr (g := pl d2) (fun t t1 _ => perm_pl p2 (.inr (by omega)))
            have v6 : Tag T (pl d2) mid e b := fun t t' t1 t2 t3 t4 => by
              rw [perm_pl p2 (.inr t1), perm_pl p2 (.inr (by omega))]; exact u6 t t' t1 t2 t3 t4
            have hc := HI.out mid e b d2 w2 ed2 (by omega) r3.1 r3.2 hb (sw2.lessReads HL.out hblk1 ed2) hHw (sw2.lt hblk1) v4 v5 v6
            have HC := hid hc; have SW2 := hid sw2; have HCR2 := hid hcr1; have HP2 := hid (And.intro p1 (And.intro p2 s2))
            clear hc hHw sw2 hcr1 u4 u5 u6 v4 v5 v6 p1 p2 s2
            go_wp2_with fail
            refine HC.out.mono ?_
            rintro e' w3 ⟨rfl, d3, ed3, p3, s3, sw3⟩
            have sw3 := sw_onto SW2.out hblk1 sw3 (by omega)
            have hcr1 := HCR2.out
            obtain ⟨p1, p2, s2⟩ := HP2.out
            have hfin := merge_done (by omega) hbd.2.2.2.2.2.2.1 hbd.2.2.2.2.2.2.2 hcr1 p2 s2 p3 s3
            have hpm := permIn_trans _ _ _ a b p1 hfin.2
            have HF := hid hfin.1; have HPM := hid hpm; have HWW := hid sw3
            clear hfin hpm hcr1 p1 p2 p3 s2 s3 sw3
            go_wp2
            all_goals go_end0
            all_goals exact ⟨rfl, d3, by omega, HPM.out, HF.out, sw_of_alloc HH.out hblk HWW.out (by omega)⟩
          · have p3 : PermIn mid b d2 d2 := permIn_refl _ _ _
            have s3 : Srt K T (pl d2) mid b := by
              rcases (show e = mid ∨ e = b by omega) with k | k
              · rw [k] at u5; exact u5.congr (fun t t1 _ => perm_pl p2 (.inr t1))
              · rw [k] at u4; exact u4.congr (fun t t1 _ => perm_pl p2 (.inr t1))
            have sw3 := sw2
            have ed3 : (d2).size = d.size := ed2
            clear u4 u5 u6
            have hfin := merge_done (by omega) hbd.2.2.2.2.2.2.1 hbd.2.2.2.2.2.2.2 hcr1 p2 s2 p3 s3
            have hpm := permIn_trans _ _ _ a b p1 hfin.2
            have HF := hid hfin.1; have HPM := hid hpm; have HWW := hid sw3
            clear hfin hpm hcr1 p1 p2 p3 s2 s3 sw3
            go_wp2
            all_goals go_end0
            all_goals exact ⟨rfl, d2, by omega, HPM.out, HF.out, sw_of_alloc HH.out hblk HWW.out (by omega)⟩
        · have p2 : PermIn a mid d1 d1 := permIn_refl _ _ _
          have s2 : Srt K T (pl d1) a mid := by
            rcases (show i = a ∨ i = mid by omega) with k | k
            · rw [k] at u2; exact u2
            · rw [k] at u1; exact u1
          have sw2 := sw1
          have ed2 : (d1).size = d.size := ed1
          clear u1 u2 u3 hv1
          by_cases r3 : mid < e ∧ e < b
          · exfalso; omega
          · have p3 : PermIn mid b d1 d1 := permIn_refl _ _ _
            have s3 : Srt K T (pl d1) mid b := by
              rcases (show e = mid ∨ e = b by omega) with k | k
              · rw [k] at u5; exact u5.congr (fun t t1 _ => perm_pl p2 (.inr t1))
              · rw [k] at u4; exact u4.congr (fun t t1 _ => perm_pl p2 (.inr t1))
            have sw3 := sw2
            have ed3 : (d1).size = d.size := ed2
            clear u4 u5 u6
            have hfin := merge_done (by omega) hbd.2.2.2.2.2.2.1 hbd.2.2.2.2.2.2.2 hcr1 p2 s2 p3 s3
            have hpm := permIn_trans _ _ _ a b p1 hfin.2
            have HF := hid hfin.1; have HPM := hid hpm; have HWW := hid sw3
            clear hfin hpm hcr1 p1 p2 p3 s2 s3 sw3
            go_wp2
            all_goals go_end0
            all_goals exact ⟨rfl, d1, by omega, HPM.out, HF.out, sw_of_alloc HH.out hblk HWW.out (by omega)⟩
      · have hv1 : pl d = rotF (pl d) i m e := (rot_none _ (by omega) (by omega) (by omega)).symm
        have p1 : PermIn a b d d := permIn_refl _ _ _
        have sw1 := HW.out
        have ed1 : d.size = d.size := rfl
        have hru := HRU.out
        have hcr1 := HCR.out
        rw [← hv1] at hru hcr1
        obtain ⟨u1, u2, u3, u4, u5, u6⟩ := hru
        by_cases r2 : a < i ∧ i < mid
        · exfalso; omega
        · have p2 : PermIn a mid d d := permIn_refl _ _ _
          have s2 : Srt K T (pl d) a mid := by
            rcases (show i = a ∨ i = mid by omega) with k | k
            · rw [k] at u2; exact u2
            · rw [k] at u1; exact u1
          have sw2 := sw1
          have ed2 : (d).size = d.size := ed1
          clear u1 u2 u3 hv1
          by_cases r3 : mid < e ∧ e < b
          · have x5 : (mid : Int) < e := by omega
            have x6 : (e : Int) < b := by omega
            have c0 : wr.cell? ⟨W.heap.size, 0, none⟩ = some (.func (.func g) #[] lb) := sw_far sw2 (by omega) (by simp)
            have c1 : wr.cell? ⟨W.heap.size, 1, none⟩ = some (.func (.func sf) #[] sb) := sw_far sw2 (by omega) (by simp)
            have hHw : Holds enc wr blk off d := sw2.holds hblk1 HH1.out ed2
            have v4 := u4.congr (g := pl d) (fun t t1 _ => perm_pl p2 (.inr t1))
            have v5 := u5.congr (g := pl d) (fun t t1 _ => perm_pl p2 (.inr (by omega)))
            have v6 : Tag T (pl d) mid e b := fun t t' t1 t2 t3 t4 => by
              rw [perm_pl p2 (.inr t1), perm_pl p2 (.inr (by omega))]; exact u6 t t' t1 t2 t3 t4
            have hc := HI.out mid e b d wr ed2 (by omega) r3.1 r3.2 hb (sw2.lessReads HL.out hblk1 ed2) hHw (sw2.lt hblk1) v4 v5 v6
            have HC := hid hc; have SW2 := hid sw2; have HCR2 := hid hcr1; have HP2 := hid (And.intro p1 (And.intro p2 s2))
            clear hc hHw sw2 hcr1 u4 u5 u6 v4 v5 v6 p1 p2 s2
            go_wp2_with fail
            refine HC.out.mono ?_
            rintro e' w3 ⟨rfl, d3, ed3, p3, s3, sw3⟩
            have sw3 := sw_onto SW2.out hblk1 sw3 (by omega)
            have hcr1 := HCR2.out
            obtain ⟨p1, p2, s2⟩ := HP2.out
            have hfin := merge_done (by omega) hbd.2.2.2.2.2.2.1 hbd.2.2.2.2.2.2.2 hcr1 p2 s2 p3 s3
            have hpm := permIn_trans _ _ _ a b p1 hfin.2
            have HF := hid hfin.1; have HPM := hid hpm; have HWW := hid sw3
            clear hfin hpm hcr1 p1 p2 p3 s2 s3 sw3
            go_wp2
            all_goals go_end0
            all_goals exact ⟨rfl, d3, by omega, HPM.out, HF.out, sw_of_alloc HH.out hblk HWW.out (by omega)⟩
          · have p3 : PermIn mid b d d := permIn_refl _ _ _
            have s3 : Srt K T (pl d) mid b := by
              rcases (show e = mid ∨ e = b by omega) with k | k
              · rw [k] at u5; exact u5.congr (fun t t1 _ => perm_pl p2 (.inr t1))
              · rw [k] at u4; exact u4.congr (fun t t1 _ => perm_pl p2 (.inr t1))
            have sw3 := sw2
            have ed3 : (d).size = d.size := ed2
            clear u4 u5 u6
            have hfin := merge_done (by omega) hbd.2.2.2.2.2.2.1 hbd.2.2.2.2.2.2.2 hcr1 p2 s2 p3 s3
            have hpm := permIn_trans _ _ _ a b p1 hfin.2
            have HF := hid hfin.1; have HPM := hid hpm; have HWW := hid sw3
            clear hfin hpm hcr1 p1 p2 p3 s2 s3 sw3
            go_wp2
            all_goals go_end0
            all_goals exact ⟨rfl, d, by omega, HPM.out, HF.out, sw_of_alloc HH.out hblk HWW.out (by omega)⟩
end Go.Proofs.Ytidokfbjfdkfdaa
