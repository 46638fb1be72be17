/-
  MdPacks, MdDec: merged.
-/
import Derived.Test.YtamnhnleipnhdaaDoorMgL
import Derived.Test.YtamnhnleipnhdaaDoorPkGot
import Derived.BigQuiet
import Derived.Test.YtamnhnleipnhdaaDoorMdStart

/-
  message.packets.
-/
namespace Go.Proofs.YtamnhnleipnhdaaDoor

open Go.RowKit

open BitsM

def PksPost (T : List (Int × List Int) × Int) (w : World) (e : Ending) (w' : World) : Prop :=
  ∃ A m c l, e = .returned (.tuple #[.slice A m c, .int .i64 T.2]) ∧ pkPlain l = T.1 ∧ SlK w' A m c l ∧ m ≤ 1000 ∧ (∀ p ∈ l, p.n ≤ 8184) ∧ Below w.heap.size w w' ∧ (∀ a, A = some a → w.heap.size ≤ a.block) ∧ ∀ p ∈ l, 0 < p.c → ∀ a, p.A = some a → w.heap.size ≤ a.block
theorem shl_u8 (f : Nat) (hf : f < 8) (W : World) : (binOp .shl 5 (.int .u8 1) (.int .i64 (f : Nat))).run Tryd.prog W = .ok (.int .u8 ((2 ^ f : Nat) : Int)) W := by
  rcases (show f = 0 ∨ f = 1 ∨ f = 2 ∨ f = 3 ∨ f = 4 ∨ f = 5 ∨ f = 6 ∨ f = 7 by omega) with rfl | rfl | rfl | rfl | rfl | rfl | rfl | rfl <;> kernel_rfl
theorem pk_n (w : World) (id : Int) (A : Option Addr) (n c : Nat) : Has (w.alloc (.cells #[.int .i64 id, .slice A n c] 39)) w.heap.size 39 #[.int .i64 id, .slice A n c] := Has.made _ _ _

set_option maxRecDepth 100000 in
set_option maxHeartbeats 8000000 in
theorem omg_packs (A : Option Addr) (c : Nat) (xs : List Nat) (a0 : Nat) (w : World) (ha : At8 w A xs) (hb : ∀ x ∈ xs, x < 256) (hn : xs.length ≤ 1500) (hc : xs.length ≤ c) (h0 : 0 < xs.length) (h1 : a0 ≤ 8 * xs.length) (hwd : Wd w) :
    Calls Tryd.prog 45 #[.slice A xs.length c, .int .i64 (a0 : Nat)] w (PksPost (packsE (bitsOf xs) a0) w) := by
  obtain ⟨T, hT⟩ : ∃ T, packsE (bitsOf xs) a0 = T := ⟨_, rfl⟩
  rw [hT]
  unfold packsE at hT
  have HT := Lib.hid hT
  have HA := Lib.hid (fun W (hW : Below w.heap.size w W) => at8_low ha hW)
  have HWD := Lib.hid (fun W (hW : Below w.heap.size w W) => hwd.under hW)
  have HBY := Lib.hid hb
  have HG := Lib.hid (fun (a : Nat) W (hW : Below w.heap.size w W) (h : a ≤ 8 * xs.length) => opk_get2 A c xs (a : Nat) W (at8_low ha hW) hb hn hc (by omega) (by omega) (hwd.under hW))
  unfold GetPost2 pkV at HG
  have hSl := bitsOf_length xs
  have HSL := Lib.hid hSl
  obtain ⟨S, hS⟩ : ∃ S, bitsOf xs = S := ⟨_, rfl⟩
  have HSS := Lib.hid hS
  rw [hS] at HT HG hSl HSL
  clear hT ha hb hwd hS
  go_enter Tryd.func45, Tryd.ntmps45
  go_wp2
  go_loopw [1, 6] (fun s1 s6 wr => ∃ (a m F : Nat) (A6 : Option Addr) (c6 : Nat) (l : List PkE), s1 = .int .i64 (a : Nat) ∧ s6 = .slice A6 m c6 ∧ a ≤ 8 * xs.length ∧ 8 * xs.length < a + F ∧ 21 * m ≤ a ∧ packsG S (S.length + 1) a0 = pgJoin (pkPlain l) (packsG S F a) ∧ OwP w.heap.size w.heap.size wr A6 m c6 l ∧ Below w.heap.size w wr) (fun s1 _ _ => 8 * xs.length - (intOf s1).toNat)
  case atStart => exact ⟨a0, 0, S.length + 1, none, 0, [], rfl, rfl, h1, by omega, by omega, pg_start _ _ _, OwP.nil _ _ _, Below.refl _ _⟩
  case round =>
    obtain ⟨a, m, F, A6, c6, l, rfl, rfl, ha, hF, hm, hpg, ho, hb⟩ := hrel
    have HPG := Lib.hid hpg; have HO := Lib.hid ho; have HB := Lib.hid hb
    clear hpg ho hb
    obtain ⟨F, rfl⟩ : ∃ f, F = f + 1 := ⟨F - 1, by omega⟩
    by_cases hlt : a + 8 ≤ 8 * xs.length
    · have hx8 : ¬ ((S.length : Int) - (a : Nat) < 8) := by rw [hSl]; omega
      have hga := HG.out a wr HB.out ha
      obtain ⟨⟨⟨id, V⟩, e, ee⟩, hG⟩ : ∃ G, getF S (a : Nat) = G := ⟨_, rfl⟩
      rw [hG] at hga
      have hst : ee = 0 → 0 ≤ (a : Int) ∧ (a : Int) + 21 ≤ e ∧ e ≤ S.length ∧ V.length ≤ 8184 := fun he => by
        have h := get_step (bits := S) (a := (a : Nat)) (by rw [hG]; exact he)
        rw [hG] at h
        exact h
      have hbad : ee ≠ 0 → packsG S (S.length + 1) a0 = ([], 0, ee) := fun he => by
        rw [HPG.out]
        have h := pg_bad (pkPlain l) F hx8 (by rw [hG]; exact he)
        rw [hG] at h
        exact h
      have hgood : ee = 0 → packsG S (S.length + 1) a0 = pgJoin (pkPlain l ++ [(id, V)]) (packsG S F e) := fun he => by
        rw [HPG.out]
        have h := pg_step (pkPlain l) F hx8 (by rw [hG]; simp [he])
        rw [hG] at h
        exact h
      have HGA := Lib.hid hga; have HST := Lib.hid hst; have HBAD := Lib.hid hbad; have HGOOD := Lib.hid hgood
      clear hga hst hbad hgood hG hx8 HPG
      simp only at HGA
      have x0 : (a : Int) + 8 ≤ 8 * (xs.length : Int) := by omega
      go_wp2_with fail
      refine HGA.out.mono ?_
      rintro e7 w7 ⟨A7, n7, c7, rfl, hs7, hb7, hl7⟩
      have hbw7 := HB.out.trans (hb7.mono HB.out.size)
      have hb8 : Below w7.heap.size w7 (w7.alloc (.cells #[.int .i64 id, .slice A7 n7 c7] 39)) := (Below.refl _ _).alloc (Nat.le_refl _) _
      have ho8 := (HO.out.under hb7).under hb8
      have hs8 := sliUnder hs7 hb8
      have hap : 0 < c7 → ∀ x, A7 = some x → w.heap.size ≤ x.block ∧ some x.block ≠ Value.ownBlock (.slice A6 m c6) := fun _ x hx => ⟨Nat.le_trans HB.out.size (hl7 x hx), fun e => by
        have h1 := hl7 x hx
        have h2 := (HO.out.own.lt x.block e.symm).2
        omega⟩
      have hbw8 := hbw7.trans (hb8.mono hbw7.size)
      have k0 := (pk_n w7 id A7 n7 c7).cell 0
      have k1 := (pk_n w7 id A7 n7 c7).cell 1
      obtain ⟨w8, hw8⟩ : ∃ w8, w7.alloc (.cells #[.int .i64 id, .slice A7 n7 c7] 39) = w8 := ⟨_, rfl⟩
      rw [hw8] at hb8 ho8 hs8 hbw8 k0 k1
      have k0 : w8.cell? ⟨w7.heap.size, 0, none⟩ = some (.int .i64 id) := k0
      have k1 : w8.cell? ⟨w7.heap.size, 1, none⟩ = some (.slice A7 n7 c7) := k1
      have HO8 := Lib.hid ho8; have HS8 := Lib.hid hs8; have HAP := Lib.hid hap; have HB8 := Lib.hid hbw8
      have HN7 := Lib.hid hs7.len
      clear hs7 hb7 hl7 hbw7 hb8 ho8 hs8 hap hbw8 HGA HO HB
      by_cases he : ee = 0
      · subst he
        obtain ⟨j1, j2, j3, j4⟩ := HST.out rfl
        obtain ⟨en, hen⟩ : ∃ en : Nat, e = en := ⟨e.toNat, by omega⟩
        subst hen
        have HGOOD2 := Lib.hid (HGOOD.out rfl)
        clear HST HBAD HGOOD
        have hwc : w.heap.size ≤ (w8.alloc (.cells #[.int .i64 id, .slice A7 n7 c7] 39)).heap.size := Nat.le_trans HB8.out.size (by simp)
        have hb9 : Below w8.heap.size w8 (w8.alloc (.cells #[.int .i64 id, .slice A7 n7 c7] 39)) := (Below.refl _ _).alloc (Nat.le_refl _) _
        have HO9 := Lib.hid (HO8.out.under hb9)
        have HS9 := Lib.hid (sliUnder HS8.out hb9)
        have HOW : Hid ((w8.alloc (.cells #[.int .i64 id, .slice A7 n7 c7] 39)).ownsRow w.heap.size 39 2 (.slice A6 m c6) m (pkCells l)) := Lib.hid HO9.out.own
        have HB9 := Lib.hid (HB8.out.trans (hb9.mono HB8.out.size))
        have HNW := cell_news w8 #[.int .i64 id, .slice A7 n7 c7] 39 [.int .i64 id, .slice A7 n7 c7] rfl
        have H1C : Hid (∀ u ∈ ([.int .i64 id, .slice A7 n7 c7] : List Value), u.oneCell' = true) := Lib.hid (fun u hu => by simp at hu; rcases hu with rfl | rfl <;> rfl)
        have HBD : Hid (m + 1 ≤ maxLen ∧ (m + 1) * 32 ≤ 140737488355328 ∧ w.heap.size ≤ (w8.alloc (.cells #[.int .i64 id, .slice A7 n7 c7] 39)).heap.size) := Lib.hid ⟨by unfold maxLen; omega, by omega, hwc⟩
        have HLEN : Hid (([.int .i64 id, .slice A7 n7 c7] : List Value).length = 1 * 2) := Lib.hid rfl
        clear hb9 HO8 HS8 HB8 hwc
        go_wp2_with (with_reducible refine wpList_push2 (o := ⟨some 30, _, _, _, _, _⟩) rfl (.tmp 27) (.tmp 29) 23 rfl w.heap.size 39 (.agg #[.int .i64 0, .slice none 0 0]) 2 32 Tryd.underlying23 info_pkt ?hz (by decide) A6 m c6 (pkCells l) ?hs HOW ⟨w8.heap.size, 0, none⟩ 1 1 [.int .i64 id, .slice A7 n7 c7] ?hx HLEN HNW H1C HBD ?next)
        all_goals try rfl
        case next =>
          intro A9 c9 w9 ho9 hg9 hl9
          have HOF := Lib.hid (HO9.out.push (x := ⟨id, A7, n7, c7, V⟩) HS9.out (by have := HN7.out; show n7 ≤ 8184; omega) HAP.out ho9.out hg9.out (by simpa using hl9.out))
          have HBF := Lib.hid (below_own HB9.out HBD.out.2.2 HOW.out (Nat.le_refl _) rfl hg9.out)
          clear ho9 hg9 hl9 HO9 HS9 HOW HB9
          go_wp2
          go_roundw
          case rel => exact ⟨en, m + 1, F, A9, c9, l ++ [⟨id, A7, n7, c7, V⟩], rfl, rfl, by omega, by omega, by omega, by rw [HGOOD2.out]; simp [pkPlain], HOF.out, HBF.out⟩
          case measure => simp [intOf]; omega
      · have hTT : T = ([], ee) := by
          have h := HT.out
          rw [HBAD.out he, if_pos he] at h
          exact h.symm
        subst hTT
        have e2 : (ee != 0) = true := by simp [he]
        have e3 : (ee == 0) = false := by simp [he]
        clear he k0 k1
        go_wp2
        go_ret2
        unfold PksPost
        exact ⟨none, 0, 0, [], rfl, rfl, ⟨rfl, Nat.le_refl _, sl_nil _ _, (fun p h => by cases h)⟩, by omega, (fun p h => by cases h), HB8.out, (fun a h => by cases h), fun p h => by cases h⟩
    · have hpe := HPG.out
      rw [pg_end _ _ (by rw [hSl]; omega)] at hpe
      have hT2 := HT.out
      rw [hpe, if_neg (by simp)] at hT2
      obtain ⟨f, hf⟩ : ∃ f, 8 * xs.length - a = f := ⟨_, rfl⟩
      have hfb := fill_bits xs f (by omega) h0
      rw [HSS.out, show 8 * xs.length - f = a by omega] at hfb
      simp only [Int.toNat_natCast] at hT2
      rw [hfb] at hT2
      obtain ⟨b0, o0, rfl, c0⟩ := at8_at (HA.out wr HB.out) (j := xs.length - 1) (by omega)
      have hv := HBY.out (xs.getD (xs.length - 1) 0) (by rw [List.getD_eq_getElem?_getD, List.getElem?_eq_getElem (by omega)]; exact List.getElem_mem _)
      generalize xs.getD (xs.length - 1) 0 = v at *
      obtain ⟨k, hk⟩ : ∃ k, xs.length - 1 = k := ⟨_, rfl⟩
      rw [hk] at c0
      have y1 : (xs.length : Int) - 1 = (k : Nat) := by omega
      have yw : IntKind.i64.wrap ((xs.length : Int) - 1) = (k : Nat) := by rw [y1]; exact IntWalk.i64_in _ (by omega)
      have k0 : (0 : Int) ≤ k := by omega
      have k1 : (k : Int) < xs.length := by omega
      have k2 : k < xs.length := by omega
      have x0 : ¬ (a : Int) + 8 ≤ 8 * (xs.length : Int) := by omega
      have y2 : 8 * (xs.length : Int) - (a : Int) = (f : Nat) := by omega
      have hslk := HO.out.slk
      have hbig : m ≤ 1000 := by omega
      have HSK := Lib.hid hslk; have HT3 := Lib.hid hT2; have HEA : Hid (∀ p ∈ l, p.n ≤ 8184) := Lib.hid (fun p hp => (HO.out.each p hp).2.1)
      have HLA : Hid (∀ a, A6 = some a → w.heap.size ≤ a.block) := Lib.hid (fun a h => (HO.out.own.lt a.block (by rw [h]; rfl)).1)
      have HLB : Hid (∀ p ∈ l, 0 < p.c → ∀ a, p.A = some a → w.heap.size ≤ a.block) := Lib.hid (fun p hp hc a h => ((HO.out.each p hp).2.2 hc a h).1)
      have hf8 : f < 8 := by omega
      have hcl := HB.out.size
      clear hpe hT2 hfb hslk hk ha hF hm hlt HPG HT HA HWD HG HSL HSS HBY hSl
      rcases (show f = 0 ∨ f = 1 ∨ f = 2 ∨ f = 3 ∨ f = 4 ∨ f = 5 ∨ f = 6 ∨ f = 7 by omega) with rfl | rfl | rfl | rfl | rfl | rfl | rfl | rfl
      · have hand : bits .and .u8 (v : Int) 0 = ((v % 1 : Nat) : Int) := by
          rw [← Nat.and_two_pow_sub_one_eq_mod v 0]
          exact u8_and_nat v 0 hv (by omega)
        have HT4 : Hid ((if decide (v % 1 ≠ 0) = true then (([], 8) : List (Int × List Int) × Int) else (pkPlain l, 0)) = T) := Lib.hid HT3.out
        have y3 : 8 * (xs.length : Int) - (a : Int) = 0 := y2
        obtain ⟨r, hr⟩ : ∃ r, v % 1 = r := ⟨_, rfl⟩
        rw [hr] at hand HT4
        clear hf8 y2 HT3 hr hv
        by_cases h0 : r = 0
        · have hTT : T = (pkPlain l, 0) := by rw [← HT4.out, if_neg (by simp [h0])]
          subst h0
          clear HT4
          go_wp2
          go_quiet (fail)
          go_wp2
          go_ret2
          unfold PksPost
          exact ⟨A6, m, c6, l, by rw [hTT]; rfl, by rw [hTT], HSK.out.under (below_draws (Below.refl _ _) nq), hbig, HEA.out, below_draws HB.out nq, HLA.out, HLB.out⟩
        · have hTT : T = ([], 8) := by rw [← HT4.out, if_pos (by simp [h0])]
          have e1 : ((r : Int) != 0) = true := by simp [h0]
          have e2 : ((r : Int) == 0) = false := by simp [h0]
          clear HT4 h0
          go_wp2
          go_quiet (fail)
          go_wp2
          go_ret2
          unfold PksPost
          exact ⟨none, 0, 0, [], by rw [hTT]; rfl, by rw [hTT]; rfl, ⟨rfl, Nat.le_refl _, sl_nil _ _, (fun p h => by cases h)⟩, by omega, (fun p h => by cases h), below_draws HB.out nq, (fun a h => by cases h), fun p h => by cases h⟩
      · have hand : bits .and .u8 (v : Int) 1 = ((v % 2 : Nat) : Int) := by
          rw [← Nat.and_two_pow_sub_one_eq_mod v 1]
          exact u8_and_nat v 1 hv (by omega)
        have HT4 : Hid ((if decide (v % 2 ≠ 0) = true then (([], 8) : List (Int × List Int) × Int) else (pkPlain l, 0)) = T) := Lib.hid HT3.out
        have y3 : 8 * (xs.length : Int) - (a : Int) = 1 := y2
        obtain ⟨r, hr⟩ : ∃ r, v % 2 = r := ⟨_, rfl⟩
        rw [hr] at hand HT4
        clear hf8 y2 HT3 hr hv
        by_cases h0 : r = 0
        · have hTT : T = (pkPlain l, 0) := by rw [← HT4.out, if_neg (by simp [h0])]
          subst h0
          clear HT4
          go_wp2
          go_quiet (fail)
          go_wp2
          go_ret2
          unfold PksPost
          exact ⟨A6, m, c6, l, by rw [hTT]; rfl, by rw [hTT], HSK.out.under (below_draws (Below.refl _ _) nq), hbig, HEA.out, below_draws HB.out nq, HLA.out, HLB.out⟩
        · have hTT : T = ([], 8) := by rw [← HT4.out, if_pos (by simp [h0])]
          have e1 : ((r : Int) != 0) = true := by simp [h0]
          have e2 : ((r : Int) == 0) = false := by simp [h0]
          clear HT4 h0
          go_wp2
          go_quiet (fail)
          go_wp2
          go_ret2
          unfold PksPost
          exact ⟨none, 0, 0, [], by rw [hTT]; rfl, by rw [hTT]; rfl, ⟨rfl, Nat.le_refl _, sl_nil _ _, (fun p h => by cases h)⟩, by omega, (fun p h => by cases h), below_draws HB.out nq, (fun a h => by cases h), fun p h => by cases h⟩
      · have hand : bits .and .u8 (v : Int) 3 = ((v % 4 : Nat) : Int) := by
          rw [← Nat.and_two_pow_sub_one_eq_mod v 2]
          exact u8_and_nat v 3 hv (by omega)
        have HT4 : Hid ((if decide (v % 4 ≠ 0) = true then (([], 8) : List (Int × List Int) × Int) else (pkPlain l, 0)) = T) := Lib.hid HT3.out
        have y3 : 8 * (xs.length : Int) - (a : Int) = 2 := y2
        obtain ⟨r, hr⟩ : ∃ r, v % 4 = r := ⟨_, rfl⟩
        rw [hr] at hand HT4
        clear hf8 y2 HT3 hr hv
        by_cases h0 : r = 0
        · have hTT : T = (pkPlain l, 0) := by rw [← HT4.out, if_neg (by simp [h0])]
          subst h0
          clear HT4
          go_wp2
          go_quiet (fail)
          go_wp2
          go_ret2
          unfold PksPost
          exact ⟨A6, m, c6, l, by rw [hTT]; rfl, by rw [hTT], HSK.out.under (below_draws (Below.refl _ _) nq), hbig, HEA.out, below_draws HB.out nq, HLA.out, HLB.out⟩
        · have hTT : T = ([], 8) := by rw [← HT4.out, if_pos (by simp [h0])]
          have e1 : ((r : Int) != 0) = true := by simp [h0]
          have e2 : ((r : Int) == 0) = false := by simp [h0]
          clear HT4 h0
          go_wp2
          go_quiet (fail)
          go_wp2
          go_ret2
          unfold PksPost
          exact ⟨none, 0, 0, [], by rw [hTT]; rfl, by rw [hTT]; rfl, ⟨rfl, Nat.le_refl _, sl_nil _ _, (fun p h => by cases h)⟩, by omega, (fun p h => by cases h), below_draws HB.out nq, (fun a h => by cases h), fun p h => by cases h⟩
      · have hand : bits .and .u8 (v : Int) 7 = ((v % 8 : Nat) : Int) := by
          rw [← Nat.and_two_pow_sub_one_eq_mod v 3]
          exact u8_and_nat v 7 hv (by omega)
        have HT4 : Hid ((if decide (v % 8 ≠ 0) = true then (([], 8) : List (Int × List Int) × Int) else (pkPlain l, 0)) = T) := Lib.hid HT3.out
        have y3 : 8 * (xs.length : Int) - (a : Int) = 3 := y2
        obtain ⟨r, hr⟩ : ∃ r, v % 8 = r := ⟨_, rfl⟩
        rw [hr] at hand HT4
        clear hf8 y2 HT3 hr hv
        by_cases h0 : r = 0
        · have hTT : T = (pkPlain l, 0) := by rw [← HT4.out, if_neg (by simp [h0])]
          subst h0
          clear HT4
          go_wp2
          go_quiet (fail)
          go_wp2
          go_ret2
          unfold PksPost
          exact ⟨A6, m, c6, l, by rw [hTT]; rfl, by rw [hTT], HSK.out.under (below_draws (Below.refl _ _) nq), hbig, HEA.out, below_draws HB.out nq, HLA.out, HLB.out⟩
        · have hTT : T = ([], 8) := by rw [← HT4.out, if_pos (by simp [h0])]
          have e1 : ((r : Int) != 0) = true := by simp [h0]
          have e2 : ((r : Int) == 0) = false := by simp [h0]
          clear HT4 h0
          go_wp2
          go_quiet (fail)
          go_wp2
          go_ret2
          unfold PksPost
          exact ⟨none, 0, 0, [], by rw [hTT]; rfl, by rw [hTT]; rfl, ⟨rfl, Nat.le_refl _, sl_nil _ _, (fun p h => by cases h)⟩, by omega, (fun p h => by cases h), below_draws HB.out nq, (fun a h => by cases h), fun p h => by cases h⟩
      · have hand : bits .and .u8 (v : Int) 15 = ((v % 16 : Nat) : Int) := by
          rw [← Nat.and_two_pow_sub_one_eq_mod v 4]
          exact u8_and_nat v 15 hv (by omega)
        have HT4 : Hid ((if decide (v % 16 ≠ 0) = true then (([], 8) : List (Int × List Int) × Int) else (pkPlain l, 0)) = T) := Lib.hid HT3.out
        have y3 : 8 * (xs.length : Int) - (a : Int) = 4 := y2
        obtain ⟨r, hr⟩ : ∃ r, v % 16 = r := ⟨_, rfl⟩
        rw [hr] at hand HT4
        clear hf8 y2 HT3 hr hv
        by_cases h0 : r = 0
        · have hTT : T = (pkPlain l, 0) := by rw [← HT4.out, if_neg (by simp [h0])]
          subst h0
          clear HT4
          go_wp2
          go_quiet (fail)
          go_wp2
          go_ret2
          unfold PksPost
          exact ⟨A6, m, c6, l, by rw [hTT]; rfl, by rw [hTT], HSK.out.under (below_draws (Below.refl _ _) nq), hbig, HEA.out, below_draws HB.out nq, HLA.out, HLB.out⟩
        · have hTT : T = ([], 8) := by rw [← HT4.out, if_pos (by simp [h0])]
          have e1 : ((r : Int) != 0) = true := by simp [h0]
          have e2 : ((r : Int) == 0) = false := by simp [h0]
          clear HT4 h0
          go_wp2
          go_quiet (fail)
          go_wp2
          go_ret2
          unfold PksPost
          exact ⟨none, 0, 0, [], by rw [hTT]; rfl, by rw [hTT]; rfl, ⟨rfl, Nat.le_refl _, sl_nil _ _, (fun p h => by cases h)⟩, by omega, (fun p h => by cases h), below_draws HB.out nq, (fun a h => by cases h), fun p h => by cases h⟩
      · have hand : bits .and .u8 (v : Int) 31 = ((v % 32 : Nat) : Int) := by
          rw [← Nat.and_two_pow_sub_one_eq_mod v 5]
          exact u8_and_nat v 31 hv (by omega)
        have HT4 : Hid ((if decide (v % 32 ≠ 0) = true then (([], 8) : List (Int × List Int) × Int) else (pkPlain l, 0)) = T) := Lib.hid HT3.out
        have y3 : 8 * (xs.length : Int) - (a : Int) = 5 := y2
        obtain ⟨r, hr⟩ : ∃ r, v % 32 = r := ⟨_, rfl⟩
        rw [hr] at hand HT4
        clear hf8 y2 HT3 hr hv
        by_cases h0 : r = 0
        · have hTT : T = (pkPlain l, 0) := by rw [← HT4.out, if_neg (by simp [h0])]
          subst h0
          clear HT4
          go_wp2
          go_quiet (fail)
          go_wp2
          go_ret2
          unfold PksPost
          exact ⟨A6, m, c6, l, by rw [hTT]; rfl, by rw [hTT], HSK.out.under (below_draws (Below.refl _ _) nq), hbig, HEA.out, below_draws HB.out nq, HLA.out, HLB.out⟩
        · have hTT : T = ([], 8) := by rw [← HT4.out, if_pos (by simp [h0])]
          have e1 : ((r : Int) != 0) = true := by simp [h0]
          have e2 : ((r : Int) == 0) = false := by simp [h0]
          clear HT4 h0
          go_wp2
          go_quiet (fail)
          go_wp2
          go_ret2
          unfold PksPost
          exact ⟨none, 0, 0, [], by rw [hTT]; rfl, by rw [hTT]; rfl, ⟨rfl, Nat.le_refl _, sl_nil _ _, (fun p h => by cases h)⟩, by omega, (fun p h => by cases h), below_draws HB.out nq, (fun a h => by cases h), fun p h => by cases h⟩
      · have hand : bits .and .u8 (v : Int) 63 = ((v % 64 : Nat) : Int) := by
          rw [← Nat.and_two_pow_sub_one_eq_mod v 6]
          exact u8_and_nat v 63 hv (by omega)
        have HT4 : Hid ((if decide (v % 64 ≠ 0) = true then (([], 8) : List (Int × List Int) × Int) else (pkPlain l, 0)) = T) := Lib.hid HT3.out
        have y3 : 8 * (xs.length : Int) - (a : Int) = 6 := y2
        obtain ⟨r, hr⟩ : ∃ r, v % 64 = r := ⟨_, rfl⟩
        rw [hr] at hand HT4
        clear hf8 y2 HT3 hr hv
        by_cases h0 : r = 0
        · have hTT : T = (pkPlain l, 0) := by rw [← HT4.out, if_neg (by simp [h0])]
          subst h0
          clear HT4
          go_wp2
          go_quiet (fail)
          go_wp2
          go_ret2
          unfold PksPost
          exact ⟨A6, m, c6, l, by rw [hTT]; rfl, by rw [hTT], HSK.out.under (below_draws (Below.refl _ _) nq), hbig, HEA.out, below_draws HB.out nq, HLA.out, HLB.out⟩
        · have hTT : T = ([], 8) := by rw [← HT4.out, if_pos (by simp [h0])]
          have e1 : ((r : Int) != 0) = true := by simp [h0]
          have e2 : ((r : Int) == 0) = false := by simp [h0]
          clear HT4 h0
          go_wp2
          go_quiet (fail)
          go_wp2
          go_ret2
          unfold PksPost
          exact ⟨none, 0, 0, [], by rw [hTT]; rfl, by rw [hTT]; rfl, ⟨rfl, Nat.le_refl _, sl_nil _ _, (fun p h => by cases h)⟩, by omega, (fun p h => by cases h), below_draws HB.out nq, (fun a h => by cases h), fun p h => by cases h⟩
      · have hand : bits .and .u8 (v : Int) 127 = ((v % 128 : Nat) : Int) := by
          rw [← Nat.and_two_pow_sub_one_eq_mod v 7]
          exact u8_and_nat v 127 hv (by omega)
        have HT4 : Hid ((if decide (v % 128 ≠ 0) = true then (([], 8) : List (Int × List Int) × Int) else (pkPlain l, 0)) = T) := Lib.hid HT3.out
        have y3 : 8 * (xs.length : Int) - (a : Int) = 7 := y2
        obtain ⟨r, hr⟩ : ∃ r, v % 128 = r := ⟨_, rfl⟩
        rw [hr] at hand HT4
        clear hf8 y2 HT3 hr hv
        by_cases h0 : r = 0
        · have hTT : T = (pkPlain l, 0) := by rw [← HT4.out, if_neg (by simp [h0])]
          subst h0
          clear HT4
          go_wp2
          go_quiet (fail)
          go_wp2
          go_ret2
          unfold PksPost
          exact ⟨A6, m, c6, l, by rw [hTT]; rfl, by rw [hTT], HSK.out.under (below_draws (Below.refl _ _) nq), hbig, HEA.out, below_draws HB.out nq, HLA.out, HLB.out⟩
        · have hTT : T = ([], 8) := by rw [← HT4.out, if_pos (by simp [h0])]
          have e1 : ((r : Int) != 0) = true := by simp [h0]
          have e2 : ((r : Int) == 0) = false := by simp [h0]
          clear HT4 h0
          go_wp2
          go_quiet (fail)
          go_wp2
          go_ret2
          unfold PksPost
          exact ⟨none, 0, 0, [], by rw [hTT]; rfl, by rw [hTT]; rfl, ⟨rfl, Nat.le_refl _, sl_nil _ _, (fun p h => by cases h)⟩, by omega, (fun p h => by cases h), below_draws HB.out nq, (fun a h => by cases h), fun p h => by cases h⟩
end Go.Proofs.YtamnhnleipnhdaaDoor

/-
  message.Decode, by contract.
-/
namespace Go.Proofs.YtamnhnleipnhdaaDoor

open Go.RowKit

open BitsM

open Go.Great

/-- What Decode answers. -/
def DcPost (T : Msg × Int) (w : World) (e : Ending) (w' : World) : Prop :=
  ∃ id t a o A n c B m d V l, e = .returned (.tuple #[msgV id t a o A n c B m d, .int .i64 T.2]) ∧ msgOf id t a o V l = T.1 ∧ SlI w'.heap.size w' A n c V ∧ SlK w' B m d l ∧ m ≤ 1000 ∧ (∀ p ∈ l, p.n ≤ 8184) ∧ Below w.heap.size w w'
theorem SlK.grow {w w' : World} {g : Nat} {A : Option Addr} {m c : Nat} {l : List PkE} (h : SlK w A m c l) (hg : w.grownBy w' (some g)) (hA : ∀ a, A = some a → a.block ≠ g) (hp : ∀ p ∈ l, 0 < p.c → ∀ a, p.A = some a → a.block ≠ g) : SlK w' A m c l :=
  ⟨h.len, h.cap, h.sl.grow hg (fun a ha _ e => hA a ha (by injection e)), fun p hpl => (h.each p hpl).grow hg (fun hc a ha e => hp p hpl hc a ha (by injection e))⟩
theorem dc_zero {w w' : World} (e : Int) (h : Below w.heap.size w w') : DcPost (mzero, e) w (.returned (.tuple #[.agg #[.int .i64 0, .int .i64 0, .int .i64 0, .int .i64 0, .slice none 0 0, .slice none 0 0], .int .i64 e])) w' :=
  ⟨0, 0, 0, 0, none, 0, 0, none, 0, 0, [], [], rfl, rfl, ⟨rfl, Nat.le_refl _, sl_nil _ _, (fun _ a h => by cases h)⟩, ⟨rfl, Nat.le_refl _, sl_nil _ _, (fun p h => by cases h)⟩, by omega, (fun p h => by cases h), h⟩

set_option maxRecDepth 100000 in
set_option maxHeartbeats 8000000 in
theorem omg_decode (A : Option Addr) (c : Nat) (xs : List Nat) (w : World) (ha : At8 w A xs) (hb : ∀ x ∈ xs, x < 256) (hn : xs.length ≤ 1500) (hc : xs.length ≤ c) (hwd : Wd w) :
    Calls Tryd.prog 18 #[.slice A xs.length c] w (DcPost (decF xs) w) := by
  have hmf : ∀ (fn : Fn) (first cap : Array Value) (w : World), (Instr.makeFunc fn first cap).run Tryd.prog w = .ok (.func fn first cap) w := fun _ _ _ _ => rfl
  obtain ⟨T, hT⟩ : ∃ T, decF xs = T := ⟨_, rfl⟩
  rw [hT]
  have HT := Lib.hid hT
  obtain ⟨w0, hw0⟩ : ∃ w0, w.alloc (.cells #[.int .i64 0, .int .i64 0, .int .i64 0, .int .i64 0, .slice none 0 0, .slice none 0 0] 25) = w0 := ⟨_, rfl⟩
  have hz : Has w0 w.heap.size 25 #[.int .i64 0, .int .i64 0, .int .i64 0, .int .i64 0, .slice none 0 0, .slice none 0 0] := by rw [← hw0]; exact Has.made _ _ _
  have hb0 : Below w.heap.size w w0 := by rw [← hw0]; exact (Below.refl _ _).alloc (Nat.le_refl _) _
  have hs0 : w0.heap.size = w.heap.size + 1 := by rw [← hw0]; simp
  have ha0 := at8_low ha hb0
  have HRD := Lib.hid (read_any A c xs w0 ha0 (by omega) hb)
  have HZ := Lib.hid hz; have HB0 := Lib.hid hb0; have HS0 := Lib.hid hs0; have HBY := Lib.hid hb
  have HA := Lib.hid (fun W (hW : Below w.heap.size w W) => at8_low ha hW)
  have HWD := Lib.hid (fun W (hW : Below w.heap.size w W) => hwd.under hW)
  have HWL := Lib.hid hwd.low
  clear hT hz hb0 hs0 ha0 ha hb hwd
  go_enter Tryd.func18, Tryd.ntmps18
  go_wp2_with fail
  clear hw0
  refine HRD.out.mono ?_
  rintro e w1 ⟨gr, rfl, hgr, hr1, hb1⟩
  have hbw1 := HB0.out.trans (hb1.mono (show w.heap.size ≤ w0.heap.size by have := HS0.out; omega))
  have hst := omg_start gr w0.heap.size xs w1 hr1 hn hgr (HWD.out w1 hbw1) (by have := HWL.out; have := HS0.out; omega)
  obtain ⟨⟨sid, N, R, se⟩, hSt⟩ : ∃ S, startF xs = S := ⟨_, rfl⟩
  rw [hSt] at hst
  have hz1 := HZ.out.under hb1 HZ.out.lt
  have HST := Lib.hid hst; have HSF := Lib.hid hSt; have HZ1 := Lib.hid hz1; have HBW1 := Lib.hid hbw1
  have HG1 : Hid (w0.heap.size ≤ w1.heap.size) := Lib.hid hb1.size
  clear hst hSt hz1 hbw1 hr1 hb1 HRD hgr
  unfold StP kdV msgV msgCells at HST
  go_wp2_with fail
  refine HST.out.mono ?_
  rintro e w2 ⟨O, no, co, F, nf, cf, P, np, cp, id, t, a, o, A2, n2, c2, V, rfl, hok, hb2⟩
  have hs0 := HS0.out
  have hz2 := HZ1.out.under hb2 (by omega)
  have hbw2 : Below w.heap.size w w2 := HBW1.out.trans (hb2.mono (by omega))
  have hs12 : w.heap.size + 1 ≤ w2.heap.size := by have := hb2.size; have := HG1.out; omega
  obtain ⟨w3, hw3⟩ : ∃ w3, (w2.alloc (.cells #[.slice O no co, .slice F nf cf, .slice P np cp] 42)).alloc (.cells #[.int .i64 id, .int .i64 t, .int .i64 a, .int .i64 o, .slice A2 n2 c2, .slice none 0 0] 25) = w3 := ⟨_, rfl⟩
  have hb23 : Below w2.heap.size w2 w3 := by rw [← hw3]; exact ((Below.refl _ _).alloc (Nat.le_refl _) _).alloc (by simp) _
  have hk3 : Has w3 w2.heap.size 42 #[.slice O no co, .slice F nf cf, .slice P np cp] := by rw [← hw3]; exact (Has.made _ _ _).beside _
  have hm3 : Has w3 (w2.heap.size + 1) 25 #[.int .i64 id, .int .i64 t, .int .i64 a, .int .i64 o, .slice A2 n2 c2, .slice none 0 0] := by rw [← hw3]; exact has_made_at (by simp)
  have hz3 := hz2.under hb23 (by omega)
  have hbw3 : Below w.heap.size w w3 := hbw2.trans (hb23.mono (by omega))
  have HOK := Lib.hid hok; have HB23 := Lib.hid hb23; have HK3 := Lib.hid hk3; have HM3 := Lib.hid hm3; have HZ3 := Lib.hid hz3; have HBW3 := Lib.hid hbw3
  have HS12 := Lib.hid hs12
  obtain ⟨gk, hgk⟩ : ∃ gk, w2.heap.size = gk := ⟨_, rfl⟩
  rw [hgk] at HB23 HK3 HM3 HS12
  clear hok hb2 hz2 hbw2 hb23 hk3 hm3 hz3 hbw3 HST HZ1 HBW1 hs0 hs12
  have HW3 := Lib.hid hw3
  clear hw3
  go_upto_region 3 with fail
  rw [HW3.out]
  clear HW3
  by_cases hse : se = 0
  · subst hse
    obtain ⟨hid, hkd, hmk, hsv, hrr, hlo⟩ := HOK.out rfl
    obtain ⟨g1, g2, g3, g4, g5⟩ := dec_good HSF.out
    have hid : id = sid := hid
    have hmk : ∀ Q, (⟨id, t, a, o, V, Q⟩ : Msg) = mkMsg id N Q := hmk
    have hrr : IsR w2 gr xs (8 * xs.length - R.length) := hrr
    subst hid
    have hpp : ((bitsOf xs).length : Int) - (R.length : Int) = ((8 * xs.length - R.length : Nat) : Int) := by rw [bitsOf_length]; omega
    rw [hpp] at g5
    have hp8 : 8 * xs.length - R.length ≤ 8 * xs.length := by omega
    obtain ⟨p, hp⟩ : ∃ p, 8 * xs.length - R.length = p := ⟨_, rfl⟩
    rw [hp] at g5 hrr hp8
    have HAT := Lib.hid (at_any gr xs p w3 (hrr.under HB23.out (by omega)))
    have hpk := omg_packs A c xs p w3 (HA.out w3 HBW3.out) HBY.out hn hc g4 hp8 (HWD.out w3 HBW3.out)
    obtain ⟨⟨PL, pe⟩, hPE⟩ : ∃ X, packsE (bitsOf xs) (p : Nat) = X := ⟨_, rfl⟩
    rw [hPE] at hpk g5
    have hT := HT.out
    rw [g5] at hT
    have HT2 := Lib.hid hT
    have HPK := Lib.hid hpk
    unfold PksPost at HPK
    have HKN := Lib.hid g1
    have HKD := Lib.hid hkd; have HMK := Lib.hid hmk; have HSV := Lib.hid hsv; have HLO := Lib.hid hlo
    clear hkd hmk hsv hrr hlo g1 g2 g3 g4 g5 hpp hp8 hp hpk hPE hT HOK HSF HT HA HWD HBY
    have hg23 := HB23.out.size
    go_wp2_with fail
    refine HAT.out.mono ?_
    rintro e w4 ⟨rfl, rfl⟩
    clear HAT
    go_wp2_with fail
    refine HPK.out.mono ?_
    rintro e w4 ⟨B4, m4, c4, l, rfl, hpl, hsk, hm4, hpn, hb4, hla, hlb⟩
    have hm3l := HM3.out.lt
    have hm4' := HM3.out.under hb4 hm3l
    have q5 : w4.cell? ⟨gk + 1, 5, none⟩ = some (.slice none 0 0) := hm4'.cell 5
    have f5 : w4.frozen? ⟨gk + 1, 5, none⟩ = false := hm4'.thaw 5
    have hst := hm4'.stored 5 (.slice B4 m4 c4)
    have hgr5 : w4.grownBy (w4.setCell ⟨gk + 1, 5, none⟩ (.slice B4 m4 c4)) (some (gk + 1)) := only_store (only_refl w4 (some (gk + 1))) rfl _
    have hk5 := (HK3.out.under hb4 (by omega)).grow hgr5 (by intro e; injection e with e; omega)
    have hz5 := (HZ3.out.under hb4 HZ3.out.lt).grow hgr5 (by intro e; injection e with e; have := HS12.out; omega)
    have hb25 : Below gk w2 (w4.setCell ⟨gk + 1, 5, none⟩ (.slice B4 m4 c4)) := below_only (HB23.out.trans (hb4.mono (by omega))) hgr5 (by have := hb4.size; omega) (by omega)
    have hbw4 : Below w.heap.size w w4 := HBW3.out.trans (hb4.mono (by have := HBW3.out.size; omega))
    have hbw5 : Below w.heap.size w (w4.setCell ⟨gk + 1, 5, none⟩ (.slice B4 m4 c4)) := below_only hbw4 hgr5 hbw4.size (by have := HS12.out; omega)
    have hsk5 := hsk.grow hgr5 (fun a h => by have := hla a h; omega) (fun p hp hc a h => by have := hlb p hp hc a h; omega)
    have HST := Lib.hid hst; have HK5 := Lib.hid hk5; have HZC := Lib.hid hz5; have HBC := Lib.hid hbw5; have HSK5 := Lib.hid hsk5; have HB25 := Lib.hid hb25
    have HLA := Lib.hid hla; have HLB := Lib.hid hlb; have HPL := Lib.hid hpl; have HPN := Lib.hid hpn
    have hszw : w.heap.size < w3.heap.size := HZ3.out.lt
    clear hm4' hst hgr5 hk5 hz5 hb25 hbw4 hbw5 hsk5 hla hlb hpl hpn hsk hb4 HPK HM3 HK3 HZ3 HB23
    try simp only at HPL HT2
    by_cases hpe : pe = 0
    · subst hpe
      have HT3 : Hid _ := Lib.hid (by have h := HT2.out; rw [if_neg (by simp)] at h; exact h)
      have hal := omg_allows id HKN.out O no co F nf cf P np cp B4 m4 c4 l (w4.setCell ⟨gk + 1, 5, none⟩ (.slice B4 m4 c4)) (HKD.out.under (by rw [hgk]; exact HB25.out)) HSK5.out (by omega)
      have hids : pkIds l = PL.map Prod.fst := by rw [← HPL.out]; simp [pkIds, pkPlain]
      rw [hids] at hal
      unfold kdV at hal
      have HAL := Lib.hid hal
      have kk0 : (w4.setCell ⟨gk + 1, 5, none⟩ (.slice B4 m4 c4)).cell? ⟨gk, 0, none⟩ = some (.slice O no co) := HK5.out.cell 0
      have kk1 : (w4.setCell ⟨gk + 1, 5, none⟩ (.slice B4 m4 c4)).cell? ⟨gk, 1, none⟩ = some (.slice F nf cf) := HK5.out.cell 1
      have kk2 : (w4.setCell ⟨gk + 1, 5, none⟩ (.slice B4 m4 c4)).cell? ⟨gk, 2, none⟩ = some (.slice P np cp) := HK5.out.cell 2
      have km5 : (w4.setCell ⟨gk + 1, 5, none⟩ (.slice B4 m4 c4)).cell? ⟨gk + 1, 5, none⟩ = some (.slice B4 m4 c4) := HST.out.cell 5
      generalize fitsF id (PL.map Prod.fst) = ff at *
      clear hal hids HT2
      go_wp2_with fail
      refine HAL.out.mono ?_
      rintro e w6 ⟨rfl, hb6⟩
      have hz6 := HZC.out.under hb6 HZC.out.lt
      have hbw6 := HBC.out.trans (hb6.mono HBC.out.size)
      have hm6 := HST.out.under hb6 HST.out.lt
      have hsk6 := HSK5.out.under hb6
      have hb26 : Below gk w2 w6 := HB25.out.trans (hb6.mono (by have := HB25.out.size; omega))
      cases ff
      · have hTT : T = (mzero, 50) := by have h := HT3.out; rw [if_pos rfl] at h; exact h.symm
        subst hTT
        have HZD := Lib.hid hz6; have HBD := Lib.hid hbw6
        clear HZC HBC
        have HZC := HZD; have HBC := HBD
        clear HZD HBD hz6 hbw6 hm6 hsk6 hb26 hb6 HT3 HST HK5 HSK5 HB25 HLA HLB HPL HPN HKD HMK HSV HLO HKN HAL kk0 kk1 kk2 km5 q5 f5
        have HE : Hid ((w6).heap[w.heap.size]? = some (.cells #[.int .i64 0, .int .i64 0, .int .i64 0, .int .i64 0, .slice none 0 0, .slice none 0 0] 25 (0, 0))) := Lib.hid HZC.out
        have HF := Lib.hid (has_setRow HZC.out #[.int .i64 0, .int .i64 0, .int .i64 0, .int .i64 0, .slice none 0 0, .slice none 0 0])
        have HBF := Lib.hid (below_row (g := w.heap.size) HBC.out (Nat.le_refl _) #[.int .i64 0, .int .i64 0, .int .i64 0, .int .i64 0, .slice none 0 0, .slice none 0 0])
        clear HZC HBC
        go_wp2_with (with_reducible refine wpList_store_rowTo (o := ⟨none, _, _, _, _, _⟩) rfl 25 _ _ rfl rfl w.heap.size #[.int .i64 0, .int .i64 0, .int .i64 0, .int .i64 0, .slice none 0 0, .slice none 0 0] rfl rfl 25 _ HE.out (by kernel_rfl) (by kernel_rfl) (by kernel_rfl) ?_)
        refine bodyPost_ret (results_row_tmp rfl _ _ w.heap.size 25 _ _ rfl HF.out Tryd.underlying25 rfl (by kernel_rfl)) rfl ?_
        exact dc_zero 50 HBF.out
      · have hTT : T = (mkMsg id N PL, 0) := by have h := HT3.out; rw [if_neg (by decide)] at h; exact h.symm
        subst hTT
        have hgz := grown_setRow w6 w.heap.size #[.int .i64 id, .int .i64 t, .int .i64 a, .int .i64 o, .slice A2 n2 c2, .slice B4 m4 c4]
        have hsv7 := (sliUnder HSV.out (by rw [hgk]; exact hb26)).grow hgz (fun _ a h e => by have := HLO.out a h; injection e with e; have := HS0.out; omega)
        have hsk7 := hsk6.grow hgz (fun a h => by have := HLA.out a h; omega) (fun p hp hc a h => by have := HLB.out p hp hc a h; omega)
        have m0 : w6.cell? ⟨gk + 1, 0, none⟩ = some (.int .i64 id) := hm6.cell 0
        have m1 : w6.cell? ⟨gk + 1, 1, none⟩ = some (.int .i64 t) := hm6.cell 1
        have m2 : w6.cell? ⟨gk + 1, 2, none⟩ = some (.int .i64 a) := hm6.cell 2
        have m3 : w6.cell? ⟨gk + 1, 3, none⟩ = some (.int .i64 o) := hm6.cell 3
        have m4c : w6.cell? ⟨gk + 1, 4, none⟩ = some (.slice A2 n2 c2) := hm6.cell 4
        have m5 : w6.cell? ⟨gk + 1, 5, none⟩ = some (.slice B4 m4 c4) := hm6.cell 5
        have HSV7 := Lib.hid hsv7; have HSK7 := Lib.hid hsk7
        have HE : Hid (w6.heap[w.heap.size]? = some (.cells #[.int .i64 0, .int .i64 0, .int .i64 0, .int .i64 0, .slice none 0 0, .slice none 0 0] 25 (0, 0))) := Lib.hid hz6
        have HF := Lib.hid (has_setRow hz6 #[.int .i64 id, .int .i64 t, .int .i64 a, .int .i64 o, .slice A2 n2 c2, .slice B4 m4 c4])
        have HBF := Lib.hid (below_row (g := w.heap.size) hbw6 (Nat.le_refl _) #[.int .i64 id, .int .i64 t, .int .i64 a, .int .i64 o, .slice A2 n2 c2, .slice B4 m4 c4])
        clear hz6 hbw6 hm6 hsk6 hb26 hb6 HT3 HST HK5 HSK5 HB25 HLA HLB HKD HSV HLO HKN HAL HZC HBC hgz hsv7 hsk7 kk0 kk1 kk2 km5 q5 f5
        go_wp2_with (with_reducible refine wpList_store_rowTo (o := ⟨none, _, _, _, _, _⟩) rfl 25 _ _ rfl rfl w.heap.size #[.int .i64 id, .int .i64 t, .int .i64 a, .int .i64 o, .slice A2 n2 c2, .slice B4 m4 c4] rfl rfl 25 _ HE.out (by kernel_rfl) (by kernel_rfl) (by kernel_rfl) ?_)
        refine bodyPost_ret (results_row_tmp rfl _ _ w.heap.size 25 _ _ rfl HF.out Tryd.underlying25 rfl (by kernel_rfl)) rfl ?_
        unfold DcPost
        exact ⟨id, t, a, o, A2, n2, c2, B4, m4, c4, V, l, rfl, by rw [← HPL.out]; exact HMK.out _, HSV7.out, HSK7.out, hm4, HPN.out, HBF.out⟩
    · have hTT : T = (mzero, pe) := by have h := HT2.out; rw [if_pos hpe] at h; exact h.symm
      subst hTT
      have e2 : (pe != 0) = true := by simp [hpe]
      have e3 : (pe == 0) = false := by simp [hpe]
      clear hpe HT2 HST HK5 HSK5 HB25 HLA HLB HPL HPN HKD HMK HSV HLO HKN
      have HE : Hid ((w4.setCell ⟨gk + 1, 5, none⟩ (.slice B4 m4 c4)).heap[w.heap.size]? = some (.cells #[.int .i64 0, .int .i64 0, .int .i64 0, .int .i64 0, .slice none 0 0, .slice none 0 0] 25 (0, 0))) := Lib.hid HZC.out
      have HF := Lib.hid (has_setRow HZC.out #[.int .i64 0, .int .i64 0, .int .i64 0, .int .i64 0, .slice none 0 0, .slice none 0 0])
      have HBF := Lib.hid (below_row (g := w.heap.size) HBC.out (Nat.le_refl _) #[.int .i64 0, .int .i64 0, .int .i64 0, .int .i64 0, .slice none 0 0, .slice none 0 0])
      clear HZC HBC
      go_wp2_with (with_reducible refine wpList_store_rowTo (o := ⟨none, _, _, _, _, _⟩) rfl 25 _ _ rfl rfl w.heap.size #[.int .i64 0, .int .i64 0, .int .i64 0, .int .i64 0, .slice none 0 0, .slice none 0 0] rfl rfl 25 _ HE.out (by kernel_rfl) (by kernel_rfl) (by kernel_rfl) ?_)
      refine bodyPost_ret (results_row_tmp rfl _ _ w.heap.size 25 _ _ rfl HF.out Tryd.underlying25 rfl (by kernel_rfl)) rfl ?_
      exact dc_zero pe HBF.out
  · have hTT : T = (mzero, se) := by
      have h := dec_bad (xs := xs) (by rw [HSF.out]; exact hse)
      rw [HSF.out, HT.out] at h
      exact h
    subst hTT
    have e2 : (se != 0) = true := by simp [hse]
    have e3 : (se == 0) = false := by simp [hse]
    have HZC := HZ3
    have HBC := HBW3
    clear hse HT HOK HSF HK3 HM3 HB23 HA HWD HBY HZ3 HBW3
    have HE : Hid ((w3).heap[w.heap.size]? = some (.cells #[.int .i64 0, .int .i64 0, .int .i64 0, .int .i64 0, .slice none 0 0, .slice none 0 0] 25 (0, 0))) := Lib.hid HZC.out
    have HF := Lib.hid (has_setRow HZC.out #[.int .i64 0, .int .i64 0, .int .i64 0, .int .i64 0, .slice none 0 0, .slice none 0 0])
    have HBF := Lib.hid (below_row (g := w.heap.size) HBC.out (Nat.le_refl _) #[.int .i64 0, .int .i64 0, .int .i64 0, .int .i64 0, .slice none 0 0, .slice none 0 0])
    clear HZC HBC
    go_wp2_with (with_reducible refine wpList_store_rowTo (o := ⟨none, _, _, _, _, _⟩) rfl 25 _ _ rfl rfl w.heap.size #[.int .i64 0, .int .i64 0, .int .i64 0, .int .i64 0, .slice none 0 0, .slice none 0 0] rfl rfl 25 _ HE.out (by kernel_rfl) (by kernel_rfl) (by kernel_rfl) ?_)
    refine bodyPost_ret (results_row_tmp rfl _ _ w.heap.size 25 _ _ rfl HF.out Tryd.underlying25 rfl (by kernel_rfl)) rfl ?_
    exact dc_zero se HBF.out
end Go.Proofs.YtamnhnleipnhdaaDoor
