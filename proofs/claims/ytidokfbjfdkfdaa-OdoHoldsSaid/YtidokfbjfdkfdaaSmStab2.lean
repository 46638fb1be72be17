/-
  Package sort's own text: stable_func puts a row into the strict order of keys and tags.
-/
import Derived.Test.YtidokfbjfdkfdaaSmStable
namespace Go.Proofs.Ytidokfbjfdkfdaa
open Go.RowKit Go.Sort Go.Lib
open Sm
variable {α : Type} [Inhabited α]

set_option maxHeartbeats 8000000 in
set_option maxRecDepth 100000 in
theorem stable_any (K : α → Int) (T : α → Nat) (enc : α → Value) (g : Nat) (lb : Array Value) (sf : Nat) (sb : Array Value) (blk off n : Nat) (d : Array α) (W : World) (hn : d.size = n)
    (eg : ∀ args w, (callFunc g args).run Try.prog w = .ok (.enter g args) w) (hless : LessReads Try.prog g lb enc (fun x y => decide (K x < K y)) blk off d.size W)
    (hswap : SwapSwaps Try.prog sf sb enc blk off d.size) (hH : Holds enc W blk off d) (hblk : blk < W.heap.size) (hsz : d.size < 1048576)
    (ht : ∀ i j, i < j → j < n → T (pl d i) < T (pl d j)) :
    Calls Try.prog 48 #[.agg #[.func (.func g) #[] lb, .func (.func sf) #[] sb], .int .i64 n] W fun e w' =>
      e = .returned (.tuple #[]) ∧ ∃ d', d'.size = d.size ∧ PermIn 0 n d d' ∧ Srt K T (pl d') 0 n ∧ SW enc W blk off d' w' := by
  have HSW := hid hswap
  have hH1 := holds_alloc hH hblk (.cells #[.func (.func g) #[] lb, .func (.func sf) #[] sb] 54)
  have HL := hid (((SW.start hH).alloc (.cells #[.func (.func g) #[] lb, .func (.func sf) #[] sb] 54)).lessReads hless hblk rfl)
  have HH := hid hH
  have HH1 := hid hH1
  have HT := hid ht
  have HM := hid (sym_any K T enc g lb sf sb blk off d.size eg hswap (by omega))
  have hblk1 : blk < (W.alloc (.cells #[.func (.func g) #[] lb, .func (.func sf) #[] sb] 54)).heap.size := by simp; omega
  have HN := hid hn
  have hns : n ≤ d.size := by omega
  have hns2 : d.size ≤ n := by omega
  clear hswap hH hH1 hless ht hn
  go_enter Try.func48, Try.ntmps48
  go_wp2
  go_loopg [5, 6] n (fun kk va vb wr => ∃ (a : Nat) (d' : Array α), va = .int .i64 a ∧ vb = .int .i64 (a + 20 : Nat) ∧ 20 ∣ a ∧ a ≤ n ∧ n - a ≤ kk ∧ d'.size = d.size ∧ Gd K T (pl d') 20 0 a n ∧ PermIn 0 n d d' ∧ (∀ t, a ≤ t → pl d' t = pl d t) ∧ SW enc (W.alloc (.cells #[.func (.func g) #[] lb, .func (.func sf) #[] sb] 54)) blk off d' wr)
  case atStart => exact ⟨0, d, rfl, rfl, ⟨0, rfl⟩, by omega, by omega, rfl, gd_none, permIn_refl _ _ _, fun t _ => rfl, SW.start HH1.out⟩
  case round =>
    obtain ⟨a, d1, rfl, rfl, hda, han, hk, hs1, hg1, hp1, hr1, hw1⟩ := hrel
    have c0 : wr.cell? ⟨W.heap.size, 0, none⟩ = some (.func (.func g) #[] lb) := sw_far hw1 (by omega) (by simp)
    have c1 : wr.cell? ⟨W.heap.size, 1, none⟩ = some (.func (.func sf) #[] sb) := sw_far hw1 (by omega) (by simp)
    have htg : ∀ i j, a ≤ i → i < j → j < n → T (pl d1 i) < T (pl d1 j) := fun i j h1 h2 h3 => by rw [hr1 i h1, hr1 j (by omega)]; exact HT.out i j h2 h3
    by_cases hlt : a + 20 ≤ n
    · have hc := ins_any K T enc g lb sf sb blk off a (a + 20) d1 wr eg (by rw [hs1]; exact hw1.lessReads HL.out hblk1 hs1) (by rw [hs1]; exact HSW.out) (hw1.holds hblk1 HH1.out hs1) (hw1.lt hblk1) (by omega) (by omega) (by omega) (fun i j h1 h2 h3 => htg i j h1 h2 (by omega))
      have x1 : ((a + 20 : Nat) : Int) ≤ n := by omega
      have HC := hid hc; have HG := hid hg1; have HP := hid hp1; have HR := hid hr1; have HW := hid hw1; have HTG := hid htg; have HDA := hid hda
      clear hc hg1 hp1 hr1 hw1 htg hda
      go_wp2_with fail
      refine HC.out.mono ?_
      rintro e w' ⟨rfl, d2, e2, p2, s2, w2⟩
      have hg2 := gd_step (by omega) HDA.out HG.out p2 (by omega) han (by omega) s2 (fun i j i1 i2 j1 j2 => HTG.out i j i1 (by omega) j2)
      have hp2 := permIn_trans _ _ _ 0 n HP.out (permIn_mono _ _ a (a + 20) 0 n (by omega) hlt (by omega) p2)
      have hr2 : ∀ t, a + 20 ≤ t → pl d2 t = pl d t := fun t t1 => by rw [perm_pl p2 (.inr t1)]; exact HR.out t (by omega)
      have hw2 := sw_onto HW.out hblk1 w2 e2
      have HG2 := hid hg2; have HP2 := hid hp2; have HR2 := hid hr2; have HW2 := hid hw2
      clear hg2 hp2 hr2 hw2 p2 s2 w2
      go_wp2
      go_roundg (gk - 1)
      case measure => omega
      case rel => exact ⟨a + 20, d2, rfl, by go_num, Nat.dvd_add HDA.out (Nat.dvd_refl 20), by omega, by omega, by omega, HG2.out, HP2.out, HR2.out, HW2.out⟩
    · have hc := ins_any K T enc g lb sf sb blk off a n d1 wr eg (by rw [hs1]; exact hw1.lessReads HL.out hblk1 hs1) (by rw [hs1]; exact HSW.out) (hw1.holds hblk1 HH1.out hs1) (hw1.lt hblk1) (by omega) (by omega) (by omega) (fun i j h1 h2 h3 => htg i j h1 h2 (by omega))
      have x1 : ¬ ((a + 20 : Nat) : Int) ≤ n := by omega
      have HC := hid hc; have HG := hid hg1; have HP := hid hp1; have HW := hid hw1; have HTG := hid htg; have HDA := hid hda
      clear hc hg1 hp1 hr1 hw1 htg hda
      go_wp2_with fail
      refine HC.out.mono ?_
      rintro e w' ⟨rfl, d2, e2, p2, s2, w2⟩
      have hg2 := gd_all (gd_step (by omega) HDA.out HG.out p2 (by omega) han (by omega) s2 (fun i j i1 i2 j1 j2 => HTG.out i j i1 (by omega) j2)) (by omega)
      have hp2 := permIn_trans _ _ _ 0 n HP.out (permIn_mono _ _ a n 0 n (by omega) (by omega) (by omega) p2)
      have hw2 := sw_onto HW.out hblk1 w2 e2
      have HG2 := hid hg2; have HP2 := hid hp2; have HW2 := hid hw2
      have e2' : d2.size = d.size := by omega
      clear hg2 hp2 hw2 p2 s2 w2 e2 HG HP HW HTG HDA HC c0 c1 x1 hlt hs1
      obtain ⟨w5, h5⟩ : ∃ w5, w5 = wr := ⟨_, rfl⟩
      subst h5
      obtain ⟨gk5, h5⟩ : ∃ gk5, gk5 = gk := ⟨_, rfl⟩
      subst h5
      go_wp2
      go_loopg [4] n (fun kk vs wr => ∃ (s : Nat) (d' : Array α), vs = .int .i64 s ∧ 0 < s ∧ s ≤ 2 * n + 20 ∧ n - s ≤ kk ∧ d'.size = d.size ∧ Gd K T (pl d') s 0 n n ∧ PermIn 0 n d d' ∧ SW enc (W.alloc (.cells #[.func (.func g) #[] lb, .func (.func sf) #[] sb] 54)) blk off d' wr)
      case atStart => exact ⟨20, d2, rfl, by omega, by omega, by omega, e2', HG2.out, HP2.out, HW2.out⟩
      case round =>
        obtain ⟨s, d3, rfl, hs0, hsn, hk3, hs3, hg3, hp3, hw3⟩ := hrel
        have HG3 := hid hg3; have HP3 := hid hp3; have HW3 := hid hw3
        clear hg3 hp3 hw3 HG2 HP2 HW2
        by_cases hlt : s < n
        · have x1 : (s : Int) < n := by omega
          obtain ⟨w6, h6⟩ : ∃ w6, w6 = wr := ⟨_, rfl⟩
          subst h6
          obtain ⟨gk6, h6⟩ : ∃ gk6, gk6 = gk := ⟨_, rfl⟩
          subst h6
          go_wp2
          go_loopg [5, 6] n (fun kk va vb wr => ∃ (a : Nat) (d' : Array α), va = .int .i64 a ∧ vb = .int .i64 (a + 2 * s : Nat) ∧ 2 * s ∣ a ∧ a ≤ n ∧ n - a ≤ kk ∧ d'.size = d.size ∧ Gd K T (pl d') (2 * s) 0 a n ∧ Gd K T (pl d') s a n n ∧ PermIn 0 n d d' ∧ SW enc (W.alloc (.cells #[.func (.func g) #[] lb, .func (.func sf) #[] sb] 54)) blk off d' wr)
          case atStart => exact ⟨0, d3, rfl, by go_num, ⟨0, rfl⟩, by omega, by omega, hs3, gd_none, HG3.out, HP3.out, HW3.out⟩
          case round =>
            obtain ⟨a, d4, rfl, rfl, hda, han, hk4, hs4, hg4, hr4, hp4, hw4⟩ := hrel
            have c0 : wr.cell? ⟨W.heap.size, 0, none⟩ = some (.func (.func g) #[] lb) := sw_far hw4 (by omega) (by simp)
            have c1 : wr.cell? ⟨W.heap.size, 1, none⟩ = some (.func (.func sf) #[] sb) := sw_far hw4 (by omega) (by simp)
            have hds : s ∣ a := Nat.dvd_trans (Nat.dvd_mul_left s 2) hda
            by_cases hlt2 : a + 2 * s ≤ n
            · obtain ⟨t1, t2, t3, t4⟩ := gd_two hs0 hds hr4 (by omega)
              rw [show min (a + 2 * s) n = a + 2 * s by omega] at t2 t3
              have hc := HM.out (2 * s + 1) a (a + s) (a + 2 * s) d4 wr hs4 (by omega) (by omega) (by omega) (by omega) (hw4.lessReads HL.out hblk1 hs4) (hw4.holds hblk1 HH1.out hs4) (hw4.lt hblk1) t1 t2 t3
              rw [show ((a + s : Nat) : Int) = (a : Int) + s by omega] at hc
              have x2 : ((a + 2 * s : Nat) : Int) ≤ n := by omega
              have HC := hid hc; have HG := hid hg4; have HR := hid hr4; have HP := hid hp4; have HW := hid hw4; have HDA := hid hda; have HTT := hid t4
              clear hc hg4 hr4 hp4 hw4 hda hds t1 t2 t3 t4
              go_wp2_with fail
              refine HC.out.mono ?_
              rintro e w' ⟨rfl, d5, e5, p5, s5, w5⟩
              have hg5 := gd_step (by omega) HDA.out HG.out p5 (by omega) han (by omega) s5 HTT.out
              have hr5 := gd_rest HR.out p5 (by omega)
              have hp5 := permIn_trans _ _ _ 0 n HP.out (permIn_mono _ _ a (a + 2 * s) 0 n (by omega) hlt2 (by omega) p5)
              have hw5 := sw_onto HW.out hblk1 w5 (by omega)
              have HG5 := hid hg5; have HR5 := hid hr5; have HP5 := hid hp5; have HW5 := hid hw5
              clear hg5 hr5 hp5 hw5 p5 s5 w5
              go_wp2
              go_roundg (gk - 1)
              case measure => omega
              case rel => exact ⟨a + 2 * s, d5, rfl, by go_num, Nat.dvd_add HDA.out (Nat.dvd_refl _), by omega, by omega, e5, HG5.out, HR5.out, HP5.out, HW5.out⟩
            · have x2 : ¬ ((a + 2 * s : Nat) : Int) ≤ n := by omega
              by_cases hm : a + s < n
              · obtain ⟨t1, t2, t3, t4⟩ := gd_two hs0 hds hr4 hm
                rw [show min (a + 2 * s) n = n by omega] at t2 t3
                have hc := HM.out (2 * s + 1) a (a + s) n d4 wr hs4 (by omega) (by omega) (by omega) (by omega) (hw4.lessReads HL.out hblk1 hs4) (hw4.holds hblk1 HH1.out hs4) (hw4.lt hblk1) t1 t2 t3
                rw [show ((a + s : Nat) : Int) = (a : Int) + s by omega] at hc
                have x3 : (a : Int) + s < n := by omega
                have HC := hid hc; have HG := hid hg4; have HP := hid hp4; have HW := hid hw4; have HDA := hid hda; have HTT := hid t4
                clear hc hg4 hr4 hp4 hw4 hda hds t1 t2 t3 t4
                go_wp2_with fail
                refine HC.out.mono ?_
                rintro e w' ⟨rfl, d5, e5, p5, s5, w5⟩
                have hg5 := gd_all (gd_step (by omega) HDA.out HG.out p5 (by omega) han (by omega) s5 HTT.out) (by omega)
                have hp5 := permIn_trans _ _ _ 0 n HP.out (permIn_mono _ _ a n 0 n (by omega) (by omega) (by omega) p5)
                have hw5 := sw_onto HW.out hblk1 w5 (by omega)
                have HG5 := hid hg5; have HP5 := hid hp5; have HW5 := hid hw5
                clear hg5 hp5 hw5 p5 s5 w5
                go_wp2
                go_roundg (gk6 - 1)
                case measure => omega
                case rel => exact ⟨2 * s, d5, by go_num, by omega, by omega, by omega, e5, HG5.out, HP5.out, HW5.out⟩
              · have x3 : ¬ (a : Int) + s < n := by omega
                have hsa : Srt K T (pl d4) a n := by
                  by_cases h0 : a < n
                  · have := (hr4 a hds (Nat.le_refl _) h0).1
                    rwa [show min (a + s) n = n by omega] at this
                  · intro i j h1 h2 h3; omega
                have hg5 := gd_all (gd_step (c := n) (by omega) hda hg4 (permIn_refl d4 a n) (by omega) han (by omega) hsa (fun i j i1 i2 j1 j2 => by omega)) (by omega)
                have HG5 := hid hg5; have HP5 := hid hp4; have HW5 := hid hw4
                clear hg5 hg4 hr4 hp4 hw4 hda hds hsa
                go_wp2
                go_roundg (gk6 - 1)
                case measure => omega
                case rel => exact ⟨2 * s, d4, by go_num, by omega, by omega, by omega, hs4, HG5.out, HP5.out, HW5.out⟩
        · have hfin := gd_end HG3.out (by omega)
          have HF := hid hfin
          clear hfin
          go_wp2
          go_end0
          exact ⟨rfl, d3, hs3, HP3.out, HF.out, sw_of_alloc HH.out hblk HW3.out hs3⟩
end Go.Proofs.Ytidokfbjfdkfdaa
