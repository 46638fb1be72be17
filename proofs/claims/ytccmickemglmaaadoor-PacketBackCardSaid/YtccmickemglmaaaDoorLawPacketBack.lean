/-
  linesidelaw05.PacketBack, walked.
-/
import Derived.Test.YtccmickemglmaaaDoorLawPacketOnly

namespace Go.Proofs.YtccmickemglmaaaDoor

open Go.RowKit

open BitsM

set_option maxRecDepth 100000 in
set_option maxHeartbeats 4000000 in
theorem packetBack_walk (id : Int) (A : Option Addr) (n c : Nat) (V : List Int) (B : Option Addr) (k d : Nat) (hs0 : List Bool) (D : Option Addr) (m f : Nat) (zs : List Int) (w : World) (h : SlI w.heap.size w A n c V) (hB : SlB w B k d hs0) (hDn : InInts .u8 w D m zs ∧ m ≤ f) (hwd : Wd w) :
    Calls Tryd.prog 5 #[pkV id A n c, .slice B k d, .slice D m f] w fun e w' => e = .returned (.bool true) ∧ Below w.heap.size w w' := by
  obtain ⟨hD, _⟩ := hDn
  obtain ⟨hl, _, hat, hby⟩ := hD.bytes
  obtain ⟨wa, hwa⟩ : ∃ wa, w.alloc (.cells #[.int .i64 id, .slice A n c] 24) = wa := ⟨_, rfl⟩
  have hba : Below w.heap.size w wa := by rw [← hwa]; exact (Below.refl _ _).alloc (Nat.le_refl _) _
  have hsz : w.heap.size < wa.heap.size := by rw [← hwa]; simp
  have hc0 : ∀ W, Below wa.heap.size wa W → W.cell? ⟨w.heap.size, 0, none⟩ = some (.int .i64 id) ∧ W.cell? ⟨w.heap.size, 1, none⟩ = some (.slice A n c) := fun W hW => by
    have hh : Has wa w.heap.size 24 #[.int .i64 id, .slice A n c] := by rw [← hwa]; exact Has.made _ _ _
    rw [hW.cell hsz, hW.cell hsz, hh.cell, hh.cell]
    exact ⟨rfl, rfl⟩
  have HA0 := Lib.hid (awake_any wa (hwd.under hba))
  have HBA := Lib.hid hba
  have HDD := Lib.hid (fun W (hW : Below wa.heap.size wa W) => (hwd.under hba).under hW); have HWD := Lib.hid hwd; clear hwd
  by_cases hin : n ≤ 3000 ∧ k ≤ 10 ∧ m ≤ 100
  · obtain ⟨hn, hk, hm⟩ := hin
    have hV : ∀ W, Below wa.heap.size wa W → SlI W.heap.size W A n c V := fun W hW =>
      sli_under h (hba.trans (hW.mono (Nat.le_of_lt hsz))) (Nat.le_trans (Nat.le_of_lt hsz) hW.size)
    have hVN : ∀ W, Below wa.heap.size wa W → SlN W A n c V := fun W hW => ⟨(hV W hW).len, (hV W hW).sl⟩
    have hBW : ∀ W, Below wa.heap.size wa W → Sl W 1 B k d (bools hs0) := fun W hW => (hB.under (hba.trans (hW.mono (Nat.le_of_lt hsz)))).2
    have hDW : ∀ W, Below wa.heap.size wa W → At8 W D (zs.map Int.toNat) := fun W hW => at8_low hat (hba.trans (hW.mono (Nat.le_of_lt hsz)))
    have hal : hs0.length = k := hB.1
    rw [← hl] at hm ⊢
    generalize zs.map Int.toNat = xs at *
    have C1 := Lib.hid (fun W hW => opk_items id A n c V W (hV W hW) (by omega) (HDD.out W hW))
    have up : ∀ (W W' : World), Below wa.heap.size wa W → Below W.heap.size W W' → Below wa.heap.size wa W' := fun W W' h1 h2 => h1.trans (h2.mono h1.size)
    have C3 := Lib.hid (fun W hW => (opk_size id A n c V W (hV W hW) (by omega) (HDD.out W hW)).mono fun e w' h => And.intro h.1 (up W w' hW h.2))
    have hln := items_len2 id V
    rw [h.len] at hln
    have hfit := items_fit id V
    have hback : ∀ O, itemsF id V = (O, 0) → ∀ X Y, getF (X ++ laidOf O ++ Y) (X.length : Nat) = ((id, V), (X.length : Int) + totalOf O, 0) := fun O h X Y => get_back h X Y
    have htot : (itemsF id V).2 = 0 → ((laidOf (itemsF id V).1).length : Int) = totalOf (itemsF id V).1 ∧ totalOf (itemsF id V).1 ≤ 8184 := fun h0 => by
      have h2 : itemsF id V = ((itemsF id V).1, 0) := by rw [← h0]
      obtain ⟨_, _, _, _, _, _, ht⟩ := items_ok h2
      exact ⟨laid_total (fun x hx => (hfit x hx).2.2.1), ht⟩
    have herr : (itemsF id V).2 ≠ 0 → (itemsF id V).1 = [] := fun h0 => by rw [items_err h0]
    obtain ⟨T, hT⟩ : ∃ T, itemsF id V = T := ⟨_, rfl⟩
    rw [hT] at C1 C3 hln hfit hback htot herr
    have HTT := Lib.hid hT; have HVS := Lib.hid hV
    clear hT
    have HF := Lib.hid hfit; have HC := Lib.hid hback; have HT := Lib.hid htot; have HE := Lib.hid herr
    have HDW := Lib.hid hDW; have HBW := Lib.hid hBW; have HVN := Lib.hid hVN; have HBY := Lib.hid hby
    have x1 : ¬ (3000 : Int) < (n : Int) := by omega
    have x2 : ¬ (10 : Int) < (k : Int) := by omega
    have x3 : ¬ (100 : Int) < (xs.length : Int) := by omega
    clear hV h hB hD hfit hback htot herr hDW hBW hVN hat hby hl
    unfold pkV at *
    go_enter Tryd.func5, Tryd.ntmps5
    go_wp2_with fail
    clear hwa
    refine HA0.out.mono ?_
    rintro e w1 ⟨rfl, hb1⟩
    obtain ⟨k0, k1⟩ := hc0 w1 hb1
    have HC1 := Lib.hid (C1.out w1 hb1)
    have HB1 := Lib.hid hb1
    clear hb1 HA0 C1
    go_wp2_with fail
    refine HC1.out.mono ?_
    rintro e w2 ⟨A2, m2, c2, rfl, hs2, hb2⟩
    have hb2' := up w1 w2 HB1.out hb2
    obtain ⟨k20, k21⟩ := hc0 w2 hb2'
    have HS2 := Lib.hid hs2
    have HB2 := Lib.hid hb2'
    have HBW2 := Lib.hid (HBA.out.trans (hb2'.mono HBA.out.size))
    clear hs2 hb2 hb2' k0 k1 HC1 HB1
    by_cases he : T.2 = 0
    · have x2 : (T.2 != 0) = false := by simp [he]
      obtain ⟨hlt, ht8⟩ := HT.out he
      have HB0 := Lib.hid (HBW.out w2 HB2.out)
      have HO0 : Hid (w2.ownsRow w2.heap.size 4 1 (.slice none 0 0) 0 []) := Lib.hid (World.ownsRow_nil w2 _ 4 1)
      have H1A := Lib.hid (bools_one hs0)
      have HD0 : Hid (0 + k ≤ maxLen ∧ (0 + k) * 1 ≤ 140737488355328 ∧ w2.heap.size ≤ w2.heap.size) := ⟨by unfold maxLen; omega, by omega, Nat.le_refl _⟩
      go_wp2_with (with_reducible refine wpList_pour (o := ⟨some 51, _, _, _, _, _⟩) rfl (.const (.slice none 0 0)) (.tmp 50) 39 rfl w2.heap.size 4 (.bool false) 1 1 Tryd.underlying39 info_bool ?hz (by decide) none 0 0 [] ?hs HO0 B k d (bools hs0) ?hx HB0 H1A HD0 ?next)
      case hz => rfl
      case hs => rfl
      case hx => rfl
      case next =>
        intro A3 c3 w3 ho3 hg3
        have HB3' := Lib.hid (below_own (Below.refl w2.heap.size w2) (Nat.le_refl _) HO0.out (Nat.le_refl _) rfl hg3.out)
        have HB3 := Lib.hid (up w2 w3 HB2.out HB3'.out)
        have HS3 := Lib.hid (HS2.out.under HB3'.out)
        have HO3 : Hid (w3.ownsRow w2.heap.size 4 1 (.slice A3 k c3) k (bools hs0)) := by simpa using ho3
        obtain ⟨bs, hbs⟩ : ∃ bs, laidOf T.1 = bs := ⟨_, rfl⟩
        have HBS := Lib.hid hbs
        have hm2 := HS2.out.len
        have HLd := Lib.hid (laid_any A2 m2 c2 T.1 w3 HS3.out (by omega) HF.out)
        rw [hbs] at HLd hlt
        clear ho3 hg3 HB0 HO0 HD0 H1A hbs
        have hLb : bs.length ≤ 8184 := by omega
        go_wp2_with fail
        refine HLd.out.mono ?_
        rintro e w4 ⟨A4, c4, rfl, ho4, hb4⟩
        have HB4 := Lib.hid (up w3 w4 HB3.out hb4)
        have HB4' : Hid (Below w2.heap.size w2 w4) := Lib.hid (HB3'.out.trans (hb4.mono HB3'.out.size))
        have HO34 : Hid (w4.ownsRow w2.heap.size 4 1 (.slice A3 k c3) k (bools hs0)) := Lib.hid (own_under HO3.out hb4 (Nat.le_refl _))
        have HSL4 := Lib.hid (Sl.of_own ho4)
        have H1B := Lib.hid (bools_one bs)
        have HD1 : Hid (k + bs.length ≤ maxLen ∧ (k + bs.length) * 1 ≤ 140737488355328 ∧ w2.heap.size ≤ w4.heap.size) := ⟨by unfold maxLen; omega, by omega, HB4'.out.size⟩
        clear ho4 hb4 HLd HO3 HB3 HB3' HS3
        go_wp2_with (with_reducible refine wpList_pour (o := ⟨some 55, _, _, _, _, _⟩) rfl (.tmp 52) (.tmp 54) 39 rfl w2.heap.size 4 (.bool false) 1 1 Tryd.underlying39 info_bool ?hz2 (by decide) A3 k c3 (bools hs0) ?hs2 HO34 A4 bs.length c4 (bools bs) ?hx2 HSL4 H1B HD1 ?next2)
        case hz2 => rfl
        case hs2 => rfl
        case hx2 => rfl
        case next2 =>
          intro A5 c5 w5 ho5 hg5
          have HB5' : Hid (Below w2.heap.size w2 w5) := Lib.hid (below_own HB4'.out HB4'.out.size HO34.out (Nat.le_refl _) rfl hg5.out)
          have HB5 := Lib.hid (up w2 w5 HB2.out HB5'.out)
          have HO5 : Hid (w5.ownsRow w2.heap.size 4 1 (.slice A5 (k + bs.length) c5) (k + bs.length) (bools (hs0 ++ bs))) := Lib.hid (by have := ho5.out; simpa [bools] using this)
          have HBt := Lib.hid (refBits_any D f xs w5 (HDW.out w5 HB5.out) HBY.out (by omega))
          have hbl : (bitsOf xs).length = 8 * xs.length := bitsOf_length xs
          rw [show bitsFrom xs 0 (8 * xs.length) = bitsOf xs from rfl] at HBt
          generalize bitsOf xs = ys at *
          clear ho5 hg5 HO34 HSL4 H1B HD1 HB4 HB4'
          go_wp2_with fail
          refine HBt.out.mono ?_
          rintro e w6 ⟨A6, c6, rfl, ho6, hb6⟩
          have HB6 := Lib.hid (up w5 w6 HB5.out hb6)
          have HB6' : Hid (Below w2.heap.size w2 w6) := Lib.hid (HB5'.out.trans (hb6.mono HB5'.out.size))
          have HO56 : Hid (w6.ownsRow w2.heap.size 4 1 (.slice A5 (k + bs.length) c5) (k + bs.length) (bools (hs0 ++ bs))) := Lib.hid (own_under HO5.out hb6 (Nat.le_refl _))
          have HSL6 := Lib.hid (Sl.of_own ho6)
          have H1C := Lib.hid (bools_one ys)
          have HD2 : Hid ((k + bs.length) + 8 * xs.length ≤ maxLen ∧ ((k + bs.length) + 8 * xs.length) * 1 ≤ 140737488355328 ∧ w2.heap.size ≤ w6.heap.size) := ⟨by unfold maxLen; omega, by omega, HB6'.out.size⟩
          clear ho6 hb6 HBt HO5 HB5 HB5'
          go_wp2_with (with_reducible refine wpList_pour (o := ⟨some 59, _, _, _, _, _⟩) rfl (.tmp 56) (.tmp 58) 39 rfl w2.heap.size 4 (.bool false) 1 1 Tryd.underlying39 info_bool ?hz3 (by decide) A5 (k + bs.length) c5 (bools (hs0 ++ bs)) ?hs3 HO56 A6 (8 * xs.length) c6 (bools ys) ?hx3 HSL6 H1C HD2 ?next3)
          case hz3 => rfl
          case hs3 => rfl
          case hx3 => rfl
          case next3 =>
            intro A7 c7 w7 ho7 hg7
            have HB7' : Hid (Below w2.heap.size w2 w7) := Lib.hid (below_own HB6'.out HB6'.out.size HO56.out (Nat.le_refl _) rfl hg7.out)
            have HB7 := Lib.hid (up w2 w7 HB2.out HB7'.out)
            obtain ⟨al, hal2⟩ : ∃ al, hs0 ++ bs ++ ys = al := ⟨_, rfl⟩
            have hall : al.length = k + bs.length + 8 * xs.length := by rw [← hal2]; simp only [List.length_append]; omega
            have HO7 : Hid (w7.ownsRow w2.heap.size 4 1 (.slice A7 (k + bs.length + 8 * xs.length) c7) (k + bs.length + 8 * xs.length) (bools al)) := Lib.hid (by have := ho7.out; rw [← hal2]; simpa [bools] using this)
            have HYT := Lib.hid ((refBytes_any A7 (k + bs.length + 8 * xs.length) c7 al w7 ⟨hall, Sl.of_own HO7.out⟩ (by omega)).mono fun e w' h => by
              obtain ⟨A', c', h1, h2, h3⟩ := h
              rw [← hall] at h1 h2
              exact (⟨A', c', by rw [bytesOf_length]; exact h1, at8_own (xs := bytesOf al) h2 (bytesOf_length al), by rw [bytesOf_length]; exact own_cap h2, h3⟩ : ∃ A' c', e = .returned (.slice A' (bytesOf al).length c') ∧ At8 w' A' (bytesOf al) ∧ (bytesOf al).length ≤ c' ∧ Below w7.heap.size w7 w'))
            have hby8 : (bytesOf al).length ≤ 1500 := by rw [bytesOf_length]; omega
            have hget : getF (bitsOf (bytesOf al)) (k : Nat) = ((id, V), (k : Int) + totalOf T.1, 0) := by
              obtain ⟨pad, hp⟩ : ∃ pad, bitsOf (bytesOf al) = al ++ pad := ⟨_, bits_bytes al⟩
              have hq := HC.out T.1 (by rw [← he]) hs0 (ys ++ pad)
              rw [hal] at hq
              rw [hp, ← hal2, ← HBS.out, List.append_assoc]
              exact hq
            clear ho7 hg7 HO56 HSL6 H1C HD2 HB6 HB6' HO7 hal2
            have HGE := Lib.hid hget; clear hget
            go_wp2_with fail
            refine HYT.out.mono ?_
            rintro e w8 ⟨A8, c8, rfl, ha8, hcap8, hb8⟩
            have HB8' : Hid (Below w2.heap.size w2 w8) := Lib.hid (HB7'.out.trans (hb8.mono HB7'.out.size))
            have hg := opk_get A8 c8 (bytesOf al) (k : Nat) w8 ha8 (bytesOf_lt al) hby8 hcap8 (by omega) (by omega) (HDD.out w8 (up w2 w8 HB2.out HB8'.out))
            rw [HGE.out] at hg
            have HG := Lib.hid hg
            generalize (bytesOf al).length = bl at *
            clear hg ha8 hb8 hcap8 HYT HB7 HB7' HGE
            go_wp2_with fail
            refine HG.out.mono ?_
            rintro e w9 ⟨A9, n9, c9, rfl, hs9, hb9⟩
            obtain ⟨wq, hwq⟩ : ∃ wq, w9.alloc (.cells #[.int .i64 id, .slice A9 n9 c9] 24) = wq := ⟨_, rfl⟩
            have hcp : wq.cell? ⟨w9.heap.size, 0, none⟩ = some (.int .i64 id) ∧ wq.cell? ⟨w9.heap.size, 1, none⟩ = some (.slice A9 n9 c9) := by
              have hh : Has wq w9.heap.size 24 #[.int .i64 id, .slice A9 n9 c9] := by rw [← hwq]; exact Has.made _ _ _
              rw [hh.cell, hh.cell]; exact ⟨rfl, rfl⟩
            obtain ⟨hcp0, hcp1⟩ := hcp
            have hb29 : Below w2.heap.size w2 w9 := HB8'.out.trans (hb9.mono HB8'.out.size)
            have hb2q : Below w2.heap.size w2 wq := by rw [← hwq]; exact hb29.alloc hb29.size _
            have hsq : SlN wq A9 n9 c9 V := by rw [← hwq]; exact (SlN.mk hs9.len hs9.sl).under ((Below.refl _ _).alloc (Nat.le_refl _) _)
            have hn9 := hsq.len
            have hbq := up w2 wq HB2.out hb2q
            have hnn := (HVN.out wq hbq).len
            have HSM := Lib.hid (same_any id id A A9 n c n9 c9 V V wq (HVN.out wq hbq) hsq (by omega) (by omega))
            rw [decide_eq_true rfl, decide_eq_true rfl] at HSM
            obtain ⟨q0, q1⟩ := hc0 wq hbq
            have HBq := Lib.hid hb2q
            unfold pkV at *
            clear hs9 hb9 hb29 hb2q hsq hbq HG HB8'
            go_wp2_with fail
            clear hwq
            refine HSM.out.mono ?_
            rintro e w10 ⟨rfl, hb10⟩
            have hb10' : Below w2.heap.size w2 w10 := HBq.out.trans (hb10.mono HBq.out.size)
            have KC := Lib.hid (fun W (hW : Below w2.heap.size w2 W) => hc0 W (up w2 W HB2.out hW))
            have D3 := Lib.hid (fun W (hW : Below w2.heap.size w2 W) => (opk_size id A n c V W ((HVS.out W (up w2 W HB2.out hW))) (by omega) (HDD.out W (up w2 W HB2.out hW))).mono fun e w' h => And.intro h.1 (hW.trans (h.2.mono hW.size)))
            rw [show itemsF id V = T from HTT.out] at D3
            have DT := Lib.hid (fun W (hW : Below w2.heap.size w2 W) => (total_any A2 m2 c2 T.1 W (HS2.out.under hW) (by omega) (fun x hx => by have := HF.out x hx; exact ⟨by have := this.2.2.1; omega, by have := this.2.2.2; omega⟩)).mono fun e w' h => And.intro h.1 (show Below w2.heap.size w2 w' from h.2 ▸ hW))
            unfold pkV at D3
            obtain ⟨k0, k1⟩ := KC.out w10 hb10'
            have hb10d : Below w2.heap.size w2 w10.drew := below_draws hb10' 1
            have hk0 : (0 : Int) ≤ k := by omega
            rw [← hlt] at D3 DT
            rw [← hlt]
            generalize bs.length = L at *
            have ye : ((L : Int) == (L : Int)) = true := by simp
            have yf : ((k : Int) + (L : Int) == (k : Int) + (L : Int)) = true := by simp
            have e1 : IntKind.i64.wrap ((k : Int) + (L : Int)) = (k : Int) + (L : Int) := IntWalk.i64_in _ (by omega)
            clear hb10 q0 q1 HSM hcp0 hcp1 HBq hall HBS hbl hlt
            go_wp2_with fail
            go_region_held3 (fun w' => w'.cell? ⟨w.heap.size, 0, none⟩ = some (.int .i64 id) ∧ w'.cell? ⟨w.heap.size, 1, none⟩ = some (.slice A n c)) (first | exact KC.out _ (by assumption) | go_keep) (first
              | (go_at_call 13; refine (D3.out _ (by assumption)).mono ?_; rintro e w11 ⟨rfl, hb11⟩)
              | (go_at_call 25; refine (DT.out _ (by assumption)).mono ?_; rintro e w12 ⟨rfl, hb12⟩))
            have hfin : ∀ W, Below w2.heap.size w2 W → Below w.heap.size w W := fun W hW => HBW2.out.trans (hW.mono HBW2.out.size)
            go_wp2
            go_ret
            exact ⟨by simp, hfin _ (by assumption)⟩
    · have x2 : (T.2 != 0) = true := by simp [he]
      have hm20 : m2 = 0 := by have := HS2.out.len; rw [HE.out he] at this; simpa using this.symm
      subst hm20
      have HC3 := Lib.hid (C3.out w2 HB2.out)
      rw [HE.out he] at HC3
      go_wp2_with fail
      refine HC3.out.mono ?_
      rintro e w3 ⟨rfl, hb3⟩
      have HB3 := Lib.hid (HBA.out.trans (hb3.mono HBA.out.size))
      clear hb3
      go_wp2
      go_ret
      exact ⟨rfl, HB3.out⟩
  · by_cases h1 : n ≤ 3000
    · by_cases h2 : k ≤ 10
      · have y1 : ¬ (3000 : Int) < (n : Int) := by omega
        have y2 : ¬ (10 : Int) < (k : Int) := by omega
        have y3 : (100 : Int) < (m : Int) := by omega
        clear h hB hD hl hat hby
        unfold pkV
        go_enter Tryd.func5, Tryd.ntmps5
        go_wp2_with fail
        clear hwa
        refine HA0.out.mono ?_
        rintro e w1 ⟨rfl, hb1⟩
        have HB1 := Lib.hid (HBA.out.trans (hb1.mono HBA.out.size))
        obtain ⟨k0, k1⟩ := hc0 w1 hb1
        clear hb1 HA0 hc0
        go_wp2
        go_ret
        exact ⟨rfl, HB1.out⟩
      · have y1 : ¬ (3000 : Int) < (n : Int) := by omega
        have y2 : (10 : Int) < (k : Int) := by omega
        clear h hB hD hl hat hby
        unfold pkV
        go_enter Tryd.func5, Tryd.ntmps5
        go_wp2_with fail
        clear hwa
        refine HA0.out.mono ?_
        rintro e w1 ⟨rfl, hb1⟩
        have HB1 := Lib.hid (HBA.out.trans (hb1.mono HBA.out.size))
        obtain ⟨k0, k1⟩ := hc0 w1 hb1
        clear hb1 HA0 hc0
        go_wp2
        go_ret
        exact ⟨rfl, HB1.out⟩
    · have y1 : (3000 : Int) < (n : Int) := by omega
      clear h hB hD hl hat hby
      unfold pkV
      go_enter Tryd.func5, Tryd.ntmps5
      go_wp2_with fail
      clear hwa
      refine HA0.out.mono ?_
      rintro e w1 ⟨rfl, hb1⟩
      have HB1 := Lib.hid (HBA.out.trans (hb1.mono HBA.out.size))
      obtain ⟨k0, k1⟩ := hc0 w1 hb1
      clear hb1 HA0 hc0
      go_wp2
      go_ret
      exact ⟨rfl, HB1.out⟩
end Go.Proofs.YtccmickemglmaaaDoor
