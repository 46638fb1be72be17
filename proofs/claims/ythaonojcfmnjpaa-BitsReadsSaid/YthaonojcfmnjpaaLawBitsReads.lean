/-
  BitsReads: a reader answers, of any bytes, any widths as the document says; writing over what it was handed changes nothing.
-/
import Derived.Test.YthaonojcfmnjpaaLawAwake
import Derived.Test.YthaonojcfmnjpaaRef01b
import Derived.Deep.DeepCutAuto
import Derived.Deep.LoopGhost
namespace Go.Proofs.Ythaonojcfmnjpaa
open Go.RowKit Go.WideShapes
open BitsM

/-- How far a reader is behind the first i widths. -/
def gets (xs : List Nat) (l : List Int) : Nat → Nat
  | 0 => 0
  | i + 1 => gotP xs (gets xs l i) (l.getD i 0)
theorem gets_le (xs : List Nat) (l : List Int) (i : Nat) : gets xs l i ≤ 8 * xs.length := by
  induction i with
  | zero => simp [gets]
  | succ i ih => exact (gotP_le ih).2

theorem refGet_any (A : Option Addr) (c : Nat) (xs : List Nat) (p : Nat) (k : Int) (w : World) (hp : p ≤ 8 * xs.length) (hx : xs.length ≤ 2000) (hmc : 8 * xs.length - p ≤ c) (hs : SlB w A (8 * xs.length - p) c (bitsFrom xs p (8 * xs.length - p))) :
    Calls Try.prog 18 #[.slice A (8 * xs.length - p) c, .int .i64 k] w fun e w' =>
      ∃ A' c', e = .returned (.tuple #[.int .i64 (gotN xs p k : Nat), .slice A' (8 * xs.length - gotP xs p k) c', .int .i64 (gotE xs p k)]) ∧ 8 * xs.length - gotP xs p k ≤ c' ∧
        SlB w' A' (8 * xs.length - gotP xs p k) c' (bitsFrom xs (gotP xs p k) (8 * xs.length - gotP xs p k)) ∧ ∃ nd, w' = w.drewN nd := by
  by_cases h1 : 1 ≤ k ∧ k ≤ 32
  · by_cases h : p + k.toNat ≤ 8 * xs.length
    · obtain ⟨e1, e2, e3⟩ := got_yes (xs := xs) (p := p) h1.1 h1.2 h
      rw [e1, e2, e3]
      have hc := refGet_fits A (8 * xs.length - p) c (bitsFrom xs p (8 * xs.length - p)) k.toNat (by omega) (by omega) (by omega) (by omega) hmc w hs
      rw [show ((k.toNat : Nat) : Int) = k from by omega, bitsFrom_take _ _ _ _ (by omega), bitsFrom_drop _ _ _ _ (by omega)] at hc
      rw [show 8 * xs.length - p - k.toNat = 8 * xs.length - (p + k.toNat) from by omega] at hc
      refine hc.mono ?_
      rintro e w' ⟨A', rfl, h2, h3⟩
      exact ⟨A', c - k.toNat, rfl, by omega, h2, h3⟩
    · obtain ⟨e1, e2, e3⟩ := got_short (xs := xs) (p := p) h1.1 h1.2 (show 8 * xs.length < p + k.toNat by omega)
      rw [e1, e2, e3]
      exact (refGet_short A _ c k h1.1 h1.2 (by omega) w).mono fun e w' ⟨he, hw⟩ => ⟨A, c, he, hmc, by rw [← hw]; exact hs, 0, by rw [← hw]; rfl⟩
  · obtain ⟨e1, e2, e3⟩ := got_wide (xs := xs) (p := p) (k := k) (by omega)
    rw [e1, e2, e3]
    exact (refGet_wide A _ c k (by omega) w).mono fun e w' ⟨he, hw⟩ => ⟨A, c, he, hmc, by rw [← hw]; exact hs, 0, by rw [← hw]; rfl⟩

set_option maxHeartbeats 1000000 in
theorem bitsReads_out (A B : Option Addr) (n c m d : Nat) (w : World) (h : 2000 < n ∨ 400 < m) :
    Calls Try.prog 4 #[.slice A n c, .slice B m d] w fun e w' => e = .returned (.bool true) ∧ Below w.heap.size w w' := by
  by_cases h1 : 2000 < (n : Int)
  · go_enter Try.func4, Try.ntmps4
    go_wp2_with (first | (go_at_call 10; refine (awake_any _).mono ?_; rintro e w1 ⟨rfl, hb1⟩))
    go_ret
    exact ⟨rfl, hb1⟩
  · have h2 : 400 < (m : Int) := by omega
    clear h
    go_enter Try.func4, Try.ntmps4
    go_wp2_with (first | (go_at_call 10; refine (awake_any _).mono ?_; rintro e w1 ⟨rfl, hb1⟩))
    go_ret
    exact ⟨rfl, hb1⟩

set_option maxRecDepth 100000 in
set_option maxHeartbeats 2000000 in
theorem bitsReads_in (A : Option Addr) (c : Nat) (xs : List Nat) (B : Option Addr) (m d : Nat) (l : List Int) (w : World) (ha : At8 w A xs) (hA : A = none → c = 0) (hxb : ∀ x ∈ xs, x < 256) (hx : xs.length ≤ 2000) (hl : InInts .i64 w B m l) (hm : m ≤ 400) :
    Calls Try.prog 4 #[.slice A xs.length c, .slice B m d] w fun e w' => e = .returned (.bool true) ∧ Below w.heap.size w w' := by
  have h1 : ¬ 2000 < (xs.length : Int) := by omega
  have h2 : ¬ 400 < (m : Int) := by omega
  have HA := Lib.hid ha; clear ha
  have HX := Lib.hid hxb; clear hxb
  have HL := Lib.hid hl; clear hl
  have HA0 := Lib.hid hA; clear hA
  obtain ⟨n, hn⟩ : ∃ n, n = xs.length := ⟨_, rfl⟩
  rw [← hn] at hx h1
  rw [← hn]
  have HN := Lib.hid hn; clear hn
  go_enter Try.func4, Try.ntmps4
  go_upto_region 4 with (first | (go_at_call 10; refine (awake_any _).mono ?_; rintro e w1 ⟨rfl, hb1⟩))
  have HB1 := Lib.hid hb1; clear hb1
  have HO1 := Lib.hid (World.ownsRow_nil w1 w.heap.size 5 1)
  have HS1 : Hid (Sl w1 1 A n c (u8s xs)) := by
    have h := at8_low HA.out HB1.out
    refine ⟨by rw [u8s_length, ← HN.out]; omega, fun e => ⟨?_, HA0.out e⟩, fun ad hA j u hu => ?_⟩
    · rcases Nat.eq_zero_or_pos n with h0 | h0
      · exact h0
      · obtain ⟨ad, e2, _⟩ := h (by rw [← HN.out]; exact h0)
        rw [e] at e2
        cases e2
    · have hpos : 0 < xs.length := by
        have := (List.getElem?_eq_some_iff.1 hu).1
        rw [u8s_length] at this
        omega
      obtain ⟨ad', e2, hc⟩ := h hpos
      rw [hA] at e2
      injection e2 with e2
      subst e2
      exact hc j u hu
  have HBD : Hid (0 + n ≤ maxLen ∧ (0 + n) * 1 ≤ 140737488355328 ∧ w.heap.size ≤ w1.heap.size) := ⟨by unfold maxLen; omega, by omega, HB1.out.size⟩
  have H81 := Lib.hid (u8s_one xs)
  go_wp2_with (with_reducible refine wpList_pour (o := ⟨some 32, _, _, _, _, _⟩) rfl (.const (.slice none 0 0)) (.tmp 31) 36 rfl w.heap.size 5 (.int .u8 0) 1 1 Try.underlying36 info_u8 ?hz (by decide) none 0 0 [] ?hs HO1 A n c (u8s xs) ?hx HS1 H81 HBD ?next)
  case hz => rfl
  case hs => rfl
  case hx => rfl
  case next =>
    intro A2 c2 w2 ho2 hg2
    have HB2 := Lib.hid (below_own HB1.out HB1.out.size HO1.out (Nat.le_refl _) rfl hg2.out)
    have HO2 := ho2
    clear ho2 hg2
    go_wp2_with fail
    have c3 := read_new A2 c2 xs w2 (by
      intro hpos
      have hs := Sl.of_own HO2.out
      cases A2 with
      | none => have := (hs.2.1 rfl).1; have := HN.out; omega
      | some ad => exact ⟨ad, rfl, fun j v hv => hs.2.2 ad rfl j v hv⟩) (by have := HN.out; omega) HX.out
    rw [← HN.out] at c3
    refine c3.mono ?_
    clear c3
    rintro e w3 ⟨gr, g2, rfl, hgr, hg2, hr3, hb3⟩
    have HO3 := Lib.hid (own_under HO2.out hb3 (Nat.le_refl _))
    have HB3 := Lib.hid (HB2.out.trans (hb3.mono HB2.out.size))
    have HR3 := Lib.hid hr3
    have HG := Lib.hid (show w.heap.size ≤ gr from Nat.le_trans HB2.out.size hgr)
    have HLT := Lib.hid (show ∀ k, (Value.slice A2 n c2).ownBlock = some k → k ≠ gr ∧ k ≠ g2 ∧ w.heap.size ≤ k from fun k hk => by
      have := HO2.out.lt k hk
      omega)
    clear hgr hg2 hr3 hb3 HO2 HB2
    go_wp2_with fail
    go_loopw [8] (fun i wr => ∃ (t : Nat) (ys : List Nat), t ≤ n ∧ i = .int .i64 (t : Nat) ∧ ys.length = n ∧ (∀ y ∈ ys, y < 256) ∧ wr.ownsRow w.heap.size 5 1 (.slice A2 n c2) n (u8s ys) ∧ IsRd wr gr g2 xs 0 ∧ Below w.heap.size w wr) (fun i _ => n - (intOf i).toNat)
    case atStart => exact ⟨0, xs, by omega, rfl, HN.out.symm, HX.out, HO3.out, HR3.out, HB3.out⟩
    case round =>
      clear HO3 HR3 HB3
      obtain ⟨t, ys, ht, rfl, hyl, hys, ho, hr, hb⟩ := hrel
      by_cases hlt : t < n
      · have hty : t < ys.length := by omega
        obtain ⟨y, hy⟩ : ∃ y, y = ys.getD t 0 := ⟨_, rfl⟩
        have hyb : y < 256 := by rw [hy, List.getD_eq_getElem?_getD, List.getElem?_eq_getElem hty]; exact hys _ (List.getElem_mem _)
        have hget : (u8s ys)[t]? = some (.int .u8 (y : Int)) := by rw [hy]; simp [u8s, hty]
        obtain ⟨go, rfl⟩ : ∃ go, A2 = some ⟨go, 0, none⟩ := by
          rcases ho.2 with ⟨e, e0⟩ | ⟨go, _, _, e, _⟩
          · omega
          · injection e with e1
            exact ⟨go, e1⟩
        obtain ⟨hn1, hn2, hlow⟩ := HLT.out go rfl
        have hc : wr.cell? ⟨go, t, none⟩ = some (.int .u8 (y : Int)) := by rw [ho.cellAt t (by omega), hget]
        have hfz := ho.frozenAt t
        have HO := Lib.hid ho; clear ho
        have HR := Lib.hid hr; clear hr
        have HB := Lib.hid hb; clear hb
        have HYS := Lib.hid hys; clear hys
        have HYL := Lib.hid hyl; clear hyl hy hty hget
        go_wp2
        go_roundw
        case rel =>
          refine ⟨t + 1, ys.set t ((y + 1) % 256), by omega, by go_num, by rw [List.length_set, HYL.out], ?_, ?_, ?_, HB.out.setCell hlow _⟩
          · intro z hz
            rcases List.mem_or_eq_of_mem_set hz with h | h
            · exact HYS.out z h
            · omega
          · have e : u8s (ys.set t ((y + 1) % 256)) = (u8s ys).set t (.int .u8 (((y + 1) % 256 : Nat) : Int)) := by simp [u8s, List.map_set]
            rw [e]
            exact (HO.out.stored t _).1
          · exact ⟨HR.out.1, HR.out.2.1.apart (p := ⟨go, t, none⟩) (Ne.symm hn1) _, HR.out.2.2.1.apart (p := ⟨go, t, none⟩) (Ne.symm hn2) _, HR.out.2.2.2⟩
        case measure => simp [intOf]; omega
      · obtain rfl : t = n := by omega
        have HR := Lib.hid (show IsR wr gr xs 0 from ⟨g2, hr⟩); clear hr
        have HB := Lib.hid hb; clear hb
        clear ho hyl hys HLT
        have c5 := refBits_any A c xs wr (at8_low HA.out HB.out) HX.out (by have := HN.out; omega)
        rw [← HN.out] at c5
        go_wp2_with fail
        refine c5.mono ?_
        clear c5
        rintro e w5 ⟨A5, c5, rfl, ho5, hb5⟩
        have HC5 := Lib.hid (show 8 * t ≤ c5 from by
          rcases ho5.2 with ⟨e, e0⟩ | ⟨go, cap, _, e, _, _, hle, _⟩
          · omega
          · injection e with _ _ e3
            omega)
        have HS5 := Lib.hid (show SlB w5 A5 (8 * t) c5 (bitsFrom xs 0 (8 * t)) from ⟨by rw [bitsFrom_length], Sl.of_own ho5⟩)
        have HR5 := Lib.hid (HR.out.under hb5 (Nat.le_refl _))
        have HB5 := Lib.hid (HB.out.trans (hb5.mono HB.out.size))
        clear ho5 hb5 HR HB
        go_wp2_with fail
        have HXL := Lib.hid (show xs.length ≤ 2000 from by have := HN.out; omega)
        go_loopw [9, 11] (fun v i wr => ∃ (j : Nat) (A3 : Option Addr) (c3 : Nat), j ≤ m ∧ i = .int .i64 (j : Nat) ∧ v = .slice A3 (8 * t - gets xs l j) c3 ∧ 8 * t - gets xs l j ≤ c3 ∧
          SlB wr A3 (8 * t - gets xs l j) c3 (bitsFrom xs (gets xs l j) (8 * t - gets xs l j)) ∧ IsR wr gr xs (gets xs l j) ∧ Below w.heap.size w wr) (fun _ i _ => m - (intOf i).toNat)
        case atStart => exact ⟨0, A5, c5, by omega, rfl, rfl, HC5.out, HS5.out, HR5.out, HB5.out⟩
        case round =>
          obtain ⟨j, A3, c3, hj, rfl, rfl, hcc, hs, hr, hb⟩ := hrel
          clear HC5 HS5 HR5 HB5
          obtain ⟨p, hp⟩ : ∃ p, p = gets xs l j := ⟨_, rfl⟩
          rw [← hp] at hcc hs hr
          rw [← hp]
          have hple : p ≤ 8 * t := by rw [hp, HN.out]; exact gets_le xs l j
          by_cases hlt : j < m
          · obtain ⟨b, off, rfl, hc⟩ := ints_low HL.out hb hlt
            obtain ⟨k, hk⟩ : ∃ k, k = l.getD j 0 := ⟨_, rfl⟩
            rw [← hk] at hc
            have hnext : gets xs l (j + 1) = gotP xs p k := by rw [hp, hk]; rfl
            have c6 := refGet_any A3 c3 xs p k wr (by rw [← HN.out]; exact hple) HXL.out (by rw [← HN.out]; exact hcc) (by rw [← HN.out]; exact hs)
            rw [← HN.out] at c6
            have c7 := fun (W : World) (h : IsR W gr xs p) => get_any gr xs p k W h
            obtain ⟨N, hN⟩ : ∃ N, N = gotN xs p k := ⟨_, rfl⟩
            obtain ⟨E, hE⟩ : ∃ E, E = gotE xs p k := ⟨_, rfl⟩
            obtain ⟨q, hq⟩ : ∃ q, q = gotP xs p k := ⟨_, rfl⟩
            have hqle : q ≤ 8 * t := by rw [hq, HN.out]; exact (gotP_le (by rw [← HN.out]; exact hple)).2
            rw [← hN, ← hE, ← hq] at c6
            simp only [← hN, ← hE, ← hq] at c7
            rw [← hq] at hnext
            have HNX := Lib.hid hnext; clear hnext
            have HR := Lib.hid hr; clear hr
            have HB := Lib.hid hb; clear hb
            have HK := Lib.hid hk; clear hk
            have HC7 := Lib.hid c7; clear c7
            clear hN hE hq hs hp hple hcc
            go_wp2_with fail
            refine c6.mono ?_
            clear c6
            rintro e w6 ⟨A6, c6, rfl, hc6, hs6, nd, rfl⟩
            have HC6 := Lib.hid hc6
            have HS6 := Lib.hid hs6
            clear hc6 hs6
            go_wp2_with fail
            refine (HC7.out _ (isR_draws HR.out nd)).mono ?_
            rintro e w7 ⟨rfl, hr7, hg7⟩
            obtain ⟨_, hrd⟩ := isR_draws HR.out nd
            have HS7 := Lib.hid (HS6.out.grow hg7 hrd.2.1 (by intro v hv b e; subst e; simp at hv))
            have HR7 := Lib.hid hr7
            have HB7 := Lib.hid (below_only (below_draws HB.out nd) hg7 HB.out.size HG.out)
            clear hr7 hg7 hrd HS6 HR HB
            have c8 := left_any gr xs q w7 HR7.out
            rw [← HN.out] at c8
            go_wp2_with fail
            refine c8.mono ?_
            clear c8
            rintro e w8 ⟨rfl, n8, rfl⟩
            have hat : 8 * (t : Int) - ((8 * t - q : Nat) : Int) = (q : Int) := by omega
            go_wp2_with fail
            refine (at_any gr xs q _ (isR_draws HR7.out n8)).mono ?_
            rintro e w9 ⟨rfl, rfl⟩
            go_wp2
            go_roundw
            case rel => exact ⟨j + 1, A6, c6, by omega, by go_num, by rw [HNX.out], by rw [HNX.out]; exact HC6.out, by rw [HNX.out]; exact HS7.out.under (below_draws (Below.refl _ _) n8), by rw [HNX.out]; exact isR_draws HR7.out n8, below_draws HB7.out n8⟩
            case measure => simp [intOf]; omega
          · obtain rfl : j = m := by omega
            have c8 := left_any gr xs p wr hr
            rw [← HN.out] at c8
            have HB := Lib.hid hb; clear hb
            clear hs hr hcc hp
            go_wp2_with fail
            refine c8.mono ?_
            clear c8
            rintro e w8 ⟨rfl, n8, rfl⟩
            go_wp2
            go_ret
            exact ⟨rfl, below_draws HB.out n8⟩

theorem bitsReads_walk (A : Option Addr) (n c : Nat) (zs : List Int) (B : Option Addr) (m d : Nat) (l : List Int) (w : World) (h0 : InInts .u8 w A n zs ∧ (A = none → c = 0)) (h1 : InInts .i64 w B m l ∧ (B = none → d = 0)) :
    Calls Try.prog 4 #[.slice A n c, .slice B m d] w fun e w' => e = .returned (.bool true) ∧ Below w.heap.size w w' := by
  by_cases hin : n ≤ 2000 ∧ m ≤ 400
  · obtain ⟨hl, _, ha, hb⟩ := h0.1.bytes
    rw [← hl]
    exact bitsReads_in A c (zs.map Int.toNat) B m d l w ha h0.2 hb (by omega) h1.1 hin.2
  · exact bitsReads_out A B n c m d w (by omega)
end Go.Proofs.Ythaonojcfmnjpaa
