/-
  linesidelaw06.MessageCut, walked.
-/
import Derived.Test.YtamnhnleipnhdaaDoorLawMessageOnly

namespace Go.Proofs.YtamnhnleipnhdaaDoor

open Go.RowKit

open BitsM

theorem sl_of_at8 {w : World} {A : Option Addr} {n c : Nat} {xs : List Nat} (h : At8 w A xs) (hl : xs.length = n) (hc : A = none → c = 0) : Sl w 1 A n c (u8s xs) := by
  refine ⟨by simp [u8s]; omega, fun e => ⟨?_, hc e⟩, fun ad ha j u hu => ?_⟩
  · rcases Nat.eq_zero_or_pos xs.length with h0 | h0
    · omega
    · obtain ⟨ad, e2, _⟩ := h h0
      rw [e] at e2; cases e2
  · have h0 : 0 < xs.length := by
      have := (List.getElem?_eq_some_iff.1 hu).1
      simp [u8s] at this; omega
    obtain ⟨ad', e2, k⟩ := h h0
    rw [ha] at e2
    injection e2 with e2
    subst e2
    exact k j u hu

theorem at8_sl6 {w : World} {A : Option Addr} {n c : Nat} {xs : List Nat} (h : Sl w 1 A n c (u8s xs)) (hn : xs.length = n) : At8 w A xs := by
  intro h0
  cases A with
  | none => have := (h.2.1 rfl).1; omega
  | some ad => exact ⟨ad, rfl, fun j v hv => h.2.2 ad rfl j v hv⟩

set_option maxRecDepth 100000 in
set_option maxHeartbeats 8000000 in
theorem messageCut_walk (id t a o : Int) (A : Option Addr) (n c : Nat) (B : Option Addr) (m d : Nat) (V : List Int) (l : List PkE) (cut : Int) (D : Option Addr) (r f : Nat) (zs : List Int) (w : World) (hV : SlI w.heap.size w A n c V) (hl : SlK w B m d l)
    (_hw : (Lit.int .i64 cut).wf = true) (hD : InInts .u8 w D r zs ∧ r ≤ f ∧ (D = none → f = 0)) (hwd : Wd w) :
    Calls Tryd.prog 7 #[msgV id t a o A n c B m d, .int .i64 cut, .slice D r f] w fun e w' => e = .returned (.bool true) ∧ Below w.heap.size w w' := by
  obtain ⟨hD, hrf, hDn⟩ := hD
  obtain ⟨hxl, _, hat, hby⟩ := hD.bytes
  have hsd := sl_of_at8 hat hxl hDn
  generalize zs.map Int.toNat = ys at *
  obtain ⟨wa, hwa, hba, hsz, hcl, hin⟩ := msg_open id t a o A n c B m d V l w hV hl hwd
  have hhw : wa.heap.size = w.heap.size + 1 := by rw [← hwa]; simp
  have hds : ∀ W, Below wa.heap.size wa W → Sl W 1 D r f (u8s ys) := fun W hW => hsd.under (hba.trans (hW.mono (Nat.le_of_lt hsz)))
  have HA0 := Lib.hid (awake_any wa (hin wa (Below.refl _ _)).2.2)
  have HBA := Lib.hid hba
  have HCL := Lib.hid hcl; have HIN := Lib.hid hin; have HDS := Lib.hid hds; have HYL := Lib.hid hxl; have HYB := Lib.hid hby
  obtain ⟨T, hT⟩ : ∃ T, lightF n m l = T := ⟨_, rfl⟩
  have HLI := Lib.hid (fun W (hW : Below wa.heap.size wa W) => light_any id t a o A n c B m d l W (hin W hW).2.1)
  rw [hT] at HLI
  have HT := Lib.hid hT
  clear hV hl hwd hba hcl hin hT hD hDn hat hby hsd hds hxl
  unfold msgV msgCells at *
  go_enter Tryd.func7, Tryd.ntmps7
  go_wp2_with fail
  clear hwa
  refine HA0.out.mono ?_
  rintro e w1 ⟨rfl, hb1⟩
  obtain ⟨q0, q1, q2, q3, q4, q5⟩ := HCL.out w1 hb1
  have HB1 := Lib.hid hb1
  have HL1 := Lib.hid (HLI.out w1 hb1)
  clear hb1 HA0 HLI
  go_wp2_with fail
  refine HL1.out.mono ?_
  rintro e w2 ⟨rfl, hb2⟩
  have hbw2 := HB1.out.trans (hb2.mono HB1.out.size)
  have HB2 := Lib.hid hbw2
  clear hb2 hbw2 q0 q1 q2 q3 q4 q5 HL1 HB1
  have HBe := Lib.hid (HBA.out.trans (HB2.out.mono HBA.out.size))
  cases T with
  | false =>
    go_wp2
    go_ret
    exact ⟨rfl, HBe.out⟩
  | true =>
    by_cases hr : r ≤ 100
    · have x0 : ¬ (100 : Int) < (r : Int) := by omega
      obtain ⟨hn, hm, hpn⟩ := light_in HT.out
      obtain ⟨q0, q1, q2, q3, q4, q5⟩ := HCL.out w2 HB2.out
      obtain ⟨hv2, hk2, hw2⟩ := HIN.out w2 HB2.out
      have HC1 := Lib.hid (omg_encode id t a o A n c B m d V l w2 hv2 hk2 (by omega) (by omega) (fun p hp => by have := hpn p hp; omega) hw2)
      unfold Bytes0 msgV msgCells at HC1
      obtain ⟨E, hE⟩ : ∃ E, encF (msgOf id t a o V l) = E := ⟨_, rfl⟩
      obtain ⟨hs1, hs2, hs3, hs4⟩ := enc_small (m := msgOf id t a o V l)
      rw [hE] at HC1 hs1 hs2 hs3 hs4
      have HE := Lib.hid hE
      have HS1 := Lib.hid hs1; have HS3 := Lib.hid hs3
      clear hE hs1 hs3 hpn hv2 hk2 hw2 HT HBe
      go_wp2_with fail
      refine HC1.out.mono ?_
      rintro e w3 ⟨A3, c3, rfl, ha3, hc3, hb3⟩
      have hbw3 := HB2.out.trans (hb3.mono HB2.out.size)
      have HB3 := Lib.hid hbw3
      have HA3 := Lib.hid ha3
      have HBe := Lib.hid (HBA.out.trans (HB3.out.mono HBA.out.size))
      obtain ⟨es, ec⟩ := E
      simp only at *
      clear ha3 hb3 hbw3 HC1 HB2 q0 q1 q2 q3 q4 q5
      by_cases hz : ec = 0
      · subst hz
        obtain ⟨N, hN⟩ : ∃ N, es.length = N := ⟨_, rfl⟩
        have HN := Lib.hid hN
        rw [hN] at hs2 hc3 ⊢
        by_cases hneg : cut < 0
        · clear hN
          go_wp2
          go_ret
          exact ⟨rfl, HBe.out⟩
        · obtain ⟨k, hk⟩ : ∃ k : Nat, cut = k := ⟨cut.toNat, by omega⟩
          subst hk
          by_cases hkl : k < N
          · have x3 : ¬ (N : Int) ≤ (k : Int) := by omega
            have x4 : ¬ (k : Int) < 0 := by omega
            have hAn : A3 = none → c3 = 0 := fun e => by
              obtain ⟨ad, e2, _⟩ := HA3.out (by omega)
              rw [e] at e2; cases e2
            have hsl3 := sl_of_at8 HA3.out hN hAn
            have HSL3 := Lib.hid hsl3
            have hct := fun w : World => cut_to (P := Tryd.prog) 28 5 Tryd.underlying28 (by kernel_rfl) (by kernel_rfl) A3 N c3 k (by omega) w
            have hslk := hsl3.to_ (p := k) (by omega)
            have htk : (u8s es).take k = u8s (es.take k) := by simp [u8s, List.map_take]
            rw [htk] at hslk
            generalize (if c3 = 0 then A3 else A3.map (·.add (0 * 1))) = A6 at *
            have hlk : (es.take k).length = k := by rw [List.length_take]; omega
            obtain ⟨_, _, hw3⟩ := HIN.out w3 HB3.out
            have hg := omg_decode A6 c3 (es.take k) w3 (at8_sl6 hslk hlk) (fun x hx => HS1.out x (List.mem_of_mem_take hx)) (by omega) (by omega) hw3
            rw [hlk] at hg
            obtain ⟨D1, hD1⟩ : ∃ D1, decF (es.take k) = D1 := ⟨_, rfl⟩
            have hcutd := dec_cut (m := msgOf id t a o V l) HE.out k (by rw [hN]; exact hkl)
            rw [hD1] at hg hcutd
            obtain ⟨D1m, D1e⟩ := D1
            unfold DcPost msgV msgCells at hg
            have HG := Lib.hid hg
            have HCD := Lib.hid hcutd
            clear hsl3 hslk htk hlk hw3 hg hD1 hcutd hs4 hN HS3 hAn HBe hneg
            go_wp2_with fail
            refine HG.out.mono ?_
            rintro e w4 ⟨id', t', a', o', A4, n4, c4, B4, m4, d4, V4, l4, rfl, heq, hsv, hsk, hm4, hpn4, hb4⟩
            have hbw4 := HB3.out.trans (hb4.mono HB3.out.size)
            obtain ⟨w5, hw5⟩ : ∃ w5, w4.alloc (.cells #[.int .i64 id', .int .i64 t', .int .i64 a', .int .i64 o', .slice A4 n4 c4, .slice B4 m4 d4] 25) = w5 := ⟨_, rfl⟩
            have hb45 : Below w4.heap.size w4 w5 := by rw [← hw5]; exact (Below.refl _ _).alloc (Nat.le_refl _) _
            have hb35 : Below w3.heap.size w3 w5 := hb4.trans (hb45.mono hb4.size)
            have HB5 := Lib.hid (hbw4.trans (hb45.mono hbw4.size))
            have HSL5 := Lib.hid (HSL3.out.under hb35)
            have HH5 := Lib.hid hw5
            have hcd8 : D1e = 10 ∨ D1e = 8 := HCD.out
            have HO0 : Hid (w5.ownsRow w5.heap.size 5 1 (.slice none 0 0) 0 []) := Lib.hid (World.ownsRow_nil w5 _ 5 1)
            have H1A := Lib.hid (u8s_one es)
            have HD0 : Hid (0 + N ≤ maxLen ∧ (0 + N) * 1 ≤ 140737488355328 ∧ w5.heap.size ≤ w5.heap.size) := ⟨by unfold maxLen; omega, by omega, Nat.le_refl _⟩
            clear heq hsv hsk hm4 hpn4 hb4 hbw4 hb45 hb35 hct HG HCD HSL3 HA3 HB3
            go_wp2_with (with_reducible refine wpList_pour (o := ⟨some 56, _, _, _, _, _⟩) rfl (.const (.slice none 0 0)) (.tmp 55) 28 rfl w5.heap.size 5 (.int .u8 0) 1 1 Tryd.underlying28 info_u8 ?hz (by decide) none 0 0 [] ?hs HO0 A3 N c3 (u8s es) ?hx HSL5 H1A HD0 ?next)
            case hz => rfl
            case hs => rfl
            case hx => rfl
            case next =>
              intro A7 c7 w7 ho7 hg7
              have HB57 := Lib.hid (below_own (Below.refl w5.heap.size w5) (Nat.le_refl _) HO0.out (Nat.le_refl _) rfl hg7.out)
              have HB7 := Lib.hid (HB5.out.trans (HB57.out.mono HB5.out.size))
              have HO7 : Hid (w7.ownsRow w5.heap.size 5 1 (.slice A7 N c7) N (u8s es)) := by simpa using ho7
              have HSD := Lib.hid (HDS.out w7 HB7.out)
              have H1B := Lib.hid (u8s_one ys)
              have HD1 : Hid (N + r ≤ maxLen ∧ (N + r) * 1 ≤ 140737488355328 ∧ w5.heap.size ≤ w7.heap.size) := ⟨by unfold maxLen; omega, by omega, HB57.out.size⟩
              clear ho7 hg7 HO0 HD0 HSL5 H1A HH5
              go_wp2_with (with_reducible refine wpList_pour (o := ⟨some 59, _, _, _, _, _⟩) rfl (.tmp 57) (.tmp 58) 28 rfl w5.heap.size 5 (.int .u8 0) 1 1 Tryd.underlying28 info_u8 ?hz2 (by decide) A7 N c7 (u8s es) ?hs2 HO7 D r f (u8s ys) ?hx2 HSD H1B HD1 ?next2)
              case hz2 => rfl
              case hs2 => rfl
              case hx2 => rfl
              case next2 =>
                intro A8 c8 w8 ho8 hg8
                have HB58 := Lib.hid (below_own HB57.out HB57.out.size HO7.out (Nat.le_refl _) rfl hg8.out)
                have hbw8 := HB5.out.trans (HB58.out.mono HB5.out.size)
                have hall : (es ++ ys).length = N + r := by rw [List.length_append, HN.out, HYL.out]
                have HO8 : Hid (w8.ownsRow w5.heap.size 5 1 (.slice A8 (N + r) c8) (N + r) (u8s (es ++ ys))) := Lib.hid (by have := ho8.out; simpa [u8s] using this)
                have h8 := HO8.out
                rw [← hall] at h8
                obtain ⟨_, _, hw8⟩ := HIN.out w8 hbw8
                have hg := omg_decode A8 c8 (es ++ ys) w8 (at8_own (xs := es ++ ys) h8 rfl) (fun x hx => by rcases List.mem_append.1 hx with h | h; exact HS1.out x h; exact HYB.out x h) (by omega) (own_cap6 h8) hw8
                rw [hall] at hg
                obtain ⟨D2, hD2⟩ : ∃ D2, decF (es ++ ys) = D2 := ⟨_, rfl⟩
                have hmore : decide (D2.2 = 8) = decide ((0 : Int) < (r : Int)) := by
                  rw [← hD2]
                  by_cases h0 : r = 0
                  · have : ys = [] := List.eq_nil_of_length_eq_zero (by rw [HYL.out]; exact h0)
                    rw [this, List.append_nil, enc_back HE.out, h0]
                    rfl
                  · rw [dec_more HE.out (fun e => h0 (by rw [← HYL.out, e]; rfl)), decide_eq_true rfl, decide_eq_true (by omega)]
                rw [hD2] at hg
                obtain ⟨D2m, D2e⟩ := D2
                unfold DcPost msgV msgCells at hg
                have HG := Lib.hid hg
                have HB8 := Lib.hid hbw8
                have HMO := Lib.hid hmore
                clear ho8 hg8 hbw8 hall h8 hw8 hg hD2 hmore HO7 HSD H1B HD1 HB7 HB57 HO8
                go_wp2_with fail
                refine HG.out.mono ?_
                rintro e w9 ⟨id9, t9, a9, o9, A9, n9, c9, B9, m9, d9, V9, l9, rfl, heq, hsv, hsk, hm9, hpn9, hb9⟩
                have hbw9 := HB8.out.trans (hb9.mono HB8.out.size)
                have HB9 := Lib.hid (hbw9.alloc hbw9.size (.cells #[.int .i64 id9, .int .i64 t9, .int .i64 a9, .int .i64 o9, .slice A9 n9 c9, .slice B9 m9 d9] 25))
                have HBe := Lib.hid (HBA.out.trans (HB9.out.mono HBA.out.size))
                have hmo := HMO.out
                have e8 : (D2e == 8) = decide (D2e = 8) := by cases hq : decide (D2e = 8) <;> simp_all
                rw [hmo] at e8
                clear heq hsv hsk hm9 hpn9 hb9 hbw9 HG HB8 HB9 HMO hmo
                by_cases h0 : 0 < r
                · have h0i : (0 : Int) < (r : Int) := by omega
                  rw [decide_eq_true h0i] at e8
                  clear h0i
                  rcases hcd8 with rfl | rfl
                  · go_wp2
                    go_ret
                    exact ⟨rfl, HBe.out⟩
                  · go_wp2
                    go_ret
                    exact ⟨rfl, HBe.out⟩
                · have h0i : ¬ (0 : Int) < (r : Int) := by omega
                  rw [decide_eq_false h0i] at e8
                  clear h0i
                  rcases hcd8 with rfl | rfl
                  · go_wp2
                    go_ret
                    exact ⟨rfl, HBe.out⟩
                  · go_wp2
                    go_ret
                    exact ⟨rfl, HBe.out⟩
          · have x3 : (N : Int) ≤ (k : Int) := by omega
            have x4 : ¬ (k : Int) < 0 := by omega
            clear hN
            go_wp2
            go_ret
            exact ⟨rfl, HBe.out⟩
      · have hes := hs4 hz
        subst hes
        have e2 : (ec != 0) = true := by simp [hz]
        clear HE HS1 HS3 hs4 hs2 hc3
        go_wp2
        go_ret
        exact ⟨rfl, HBe.out⟩
    · have x0 : (100 : Int) < (r : Int) := by omega
      go_wp2
      go_ret
      exact ⟨rfl, HBe.out⟩
end Go.Proofs.YtamnhnleipnhdaaDoor
