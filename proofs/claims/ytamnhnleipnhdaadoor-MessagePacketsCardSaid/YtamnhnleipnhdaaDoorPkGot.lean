/-
  package packet's Get, by contract.
-/
import Derived.Test.YtamnhnleipnhdaaDoorDecGet

namespace Go.Proofs.YtamnhnleipnhdaaDoor

open Go.RowKit

open BitsM

set_option maxRecDepth 100000 in
theorem catch_get (p : Addr) (x code : Int) (older : List PanicEntry) (w : World) (hc : w.cell? p = some (.int .i64 x)) (hz : w.frozen? p = false) :
    CallsD Tryd.prog 89 #[.pointer (some p)] (.panicking ({ v := .iface 29 (.int .i64 code), recovered := false } :: older)) w fun e u' w' =>
      e = .returned (.tuple #[]) ∧ u' = .panicking ({ v := .iface 29 (.int .i64 code), recovered := true } :: older) ∧ w' = w.setCell p (.int .i64 code) := by
  refine callsD_of_wpS Tryd.func89 rfl fun c₀ cs hu => ?_
  apply wpS_seq
  apply wpS_region
  simp [wpOpsS, go_sem, recoverD, hu, Tryd.ntmps89, Exit.thenS]
  apply wpS_seq
  apply wpS_region
  simp [wpOpsS, go_sem, Exit.thenS, Array.replicate]
  refine wpS_cond (t := true) (by simp [Act.eval]) ?_
  simp only [if_true]
  apply wpS_region
  simp [wpOpsS, go_sem, hc, hz, bodyPostS, results, Tryd.results89, assert_errno]

theorem idle_get (p : Addr) (w : World) :
    CallsD Tryd.prog 89 #[.pointer (some p)] .returning w fun e u' w' => e = .returned (.tuple #[]) ∧ u' = .returning ∧ w' = w := by
  refine callsD_of_wpS Tryd.func89 rfl fun c₀ cs hu => ?_
  apply wpS_seq
  apply wpS_region
  simp [wpOpsS, go_sem, recoverD, hu, Tryd.ntmps89, Exit.thenS]
  apply wpS_seq
  apply wpS_region
  simp [wpOpsS, go_sem, Exit.thenS, Array.replicate]
  refine wpS_cond (t := false) (by simp [Act.eval]) ?_
  simp only [Bool.false_eq_true, if_false]
  refine wpS_of_wp (wp_skip ?_)
  cases c₀
  simp_all [bodyPostS, results, Tryd.results89]

theorem results_row_tmp_cell {P : Program} {fn : Func} {p u v : Tmp} {ty ty2 : TypeId} (h : fn.results = #[.cell p ty, .tmp u, .cell v ty2]) (tmps : Array Value) (w : World) (g : Nat) (t : TypeId) (cs : Array Value) (d : TypeDesc)
    (hp : tmps.getD p undef = .pointer (some ⟨g, 0, none⟩)) (hg : w.heap[g]? = some (.cells cs t (0, 0)))
    (hu : P.underlying ty = some d) (hd : (match d with | .struct _ | .array _ _ => true | _ => false) = true) (hi : (P.info? ty).map (·.size) = some cs.size)
    (q : Addr) (hv : tmps.getD v undef = .pointer (some q)) (x : Value) (hq : (loadVar ty2 q).run P w = .ok x w) :
    (results fn tmps).run P w = .ok (.tuple #[.agg cs, tmps.getD u undef, x]) w := by
  have e : (results fn tmps).run P w = ((asAddr (tmps.getD p undef)).run P w).andThen fun a w₁ => ((loadVar ty a).run P w₁).andThen fun x w₂ => ((asAddr (tmps.getD v undef)).run P w₂).andThen fun b w₃ => ((loadVar ty2 b).run P w₃).andThen fun y w₄ => .ok (.tuple #[x, tmps.getD u undef, y]) w₄ := by
    simp only [results, h]
    simp [Sem.run_bind, Result.andThen]
  rw [e, hp, hv]
  simp [asAddr, run_loadVar_row w g t ty cs (0, 0) d hg hu hd hi, hq]

/-- What Get answers. -/
def GetPost2 (G : (Int × List Int) × Int × Int) (w : World) (e : Ending) (w' : World) : Prop :=
  ∃ A' n' c', e = .returned (.tuple #[pkV G.1.1 A' n' c', .int .i64 G.2.1, .int .i64 G.2.2]) ∧ SlI w'.heap.size w' A' n' c' G.1.2 ∧ Below w.heap.size w w' ∧ ∀ a, A' = some a → w.heap.size ≤ a.block
def GetPost (G : (Int × List Int) × Int × Int) (w : World) (e : Ending) (w' : World) : Prop :=
  ∃ A' n' c', e = .returned (.tuple #[pkV G.1.1 A' n' c', .int .i64 G.2.1, .int .i64 G.2.2]) ∧ SlI w'.heap.size w' A' n' c' G.1.2 ∧ Below w.heap.size w w'

set_option maxRecDepth 100000 in
set_option maxHeartbeats 8000000 in
theorem opk_get2 (A : Option Addr) (c : Nat) (xs : List Nat) (a : Int) (w : World) (ha : At8 w A xs) (hb : ∀ x ∈ xs, x < 256) (hn : xs.length ≤ 1500) (hc : xs.length ≤ c) (h1 : -9223372036854775808 ≤ a) (h2 : a ≤ 9223372036854775807) (hwd : Wd w) :
    Calls Tryd.prog 76 #[.slice A xs.length c, .int .i64 a] w (GetPost2 (getF (bitsOf xs) a) w) := by
  have hmf : ∀ (fn : Fn) (first cap : Array Value) (w : World), (Instr.makeFunc fn first cap).run Tryd.prog w = .ok (.func fn first cap) w := fun _ _ _ _ => rfl
  have hb1 : Below w.heap.size w ((w.alloc (.cells #[.int .i64 0, .slice none 0 0] 39)).alloc (.cells #[.int .i64 0] 29)) := ((Below.refl _ _).alloc (Nat.le_refl _) _).alloc (by simp) _
  have hsz : ((w.alloc (.cells #[.int .i64 0, .slice none 0 0] 39)).alloc (.cells #[.int .i64 0] 29)).heap.size = w.heap.size + 2 := by simp
  have hpp : Has ((w.alloc (.cells #[.int .i64 0, .slice none 0 0] 39)).alloc (.cells #[.int .i64 0] 29)) w.heap.size 39 #[.int .i64 0, .slice none 0 0] := (Has.made w 39 _).beside _
  have hcp : Has ((w.alloc (.cells #[.int .i64 0, .slice none 0 0] 39)).alloc (.cells #[.int .i64 0] 29)) (w.heap.size + 1) 29 #[.int .i64 0] := by
    have h := Has.made (w.alloc (.cells #[.int .i64 0, .slice none 0 0] 39)) 29 #[.int .i64 0]
    rw [show (w.alloc (.cells #[.int .i64 0, .slice none 0 0] 39)).heap.size = w.heap.size + 1 by simp] at h
    exact h
  obtain ⟨wb, hwb⟩ : ∃ wb, (w.alloc (.cells #[.int .i64 0, .slice none 0 0] 39)).alloc (.cells #[.int .i64 0] 29) = wb := ⟨_, rfl⟩
  rw [hwb] at hb1 hsz hcp hpp
  obtain ⟨G, hG⟩ : ∃ G, getF (bitsOf xs) a = G := ⟨_, rfl⟩
  rw [hG]
  unfold getF at hG
  rw [bitsOf_length] at hG
  have HWB := Lib.hid hwb; have HB1 := Lib.hid hb1; have HSZ := Lib.hid hsz; have HPP0 := Lib.hid hpp; have HCP0 := Lib.hid hcp
  have HA := Lib.hid (at8_low ha hb1); have HBY := Lib.hid hb; have HCC := Lib.hid hc; have HWD := Lib.hid (hwd.under hb1); have HGL := Lib.hid hwd.low
  clear hwb hb1 hsz hpp hcp ha hb hc hwd
  by_cases hneg : a < 0
  · rw [if_pos (.inl hneg)] at hG
    obtain ⟨⟨p0, pf0, r1, rf1⟩, ⟨p1, pf1⟩, ph, pb, pg⟩ := pk_store HPP0.out (.int .i64 0) (.slice none 0 0)
    have hc2 := HCP0.out.apart (p := ⟨w.heap.size, 0, none⟩) (by show w.heap.size + 1 ≠ w.heap.size; omega) (.int .i64 0)
    have hc3 := hc2.apart (p := ⟨w.heap.size, 1, none⟩) (by show w.heap.size + 1 ≠ w.heap.size; omega) (.slice none 0 0)
    have s1 : ((wb.setCell ⟨w.heap.size, 0, none⟩ (.int .i64 0)).setCell ⟨w.heap.size, 1, none⟩ (.slice none 0 0)).cell? ⟨w.heap.size + 1, 0, none⟩ = some (.int .i64 0) := by rw [hc3.cell]; rfl
    have s2 := hc3.thaw 0
    have q3 : (((wb.setCell ⟨w.heap.size, 0, none⟩ (.int .i64 0)).setCell ⟨w.heap.size, 1, none⟩ (.slice none 0 0)).setCell ⟨w.heap.size + 1, 0, none⟩ (.int .i64 1)).cell? ⟨w.heap.size + 1, 0, none⟩ = some (.int .i64 1) := by rw [(hc3.stored 0 _).cell]; rfl
    have HPH := Lib.hid (ph.apart (p := ⟨w.heap.size + 1, 0, none⟩) (by show w.heap.size ≠ w.heap.size + 1; omega) (.int .i64 1))
    have hB3 := pb w.heap.size w (Nat.le_refl _) HB1.out.size HB1.out
    have HPB := Lib.hid (hB3.trans (below_store (base := w.heap.size) (g := w.heap.size + 1) (by omega) hB3.size 0 (.int .i64 1)))
    clear ph pb pg hB3 hc2 hc3
    subst hG
    go_enter_defers Tryd.func76, Tryd.ntmps76
    go_upto_region 1 with fail
    rw [HWB.out]
    go_wp2
    refine ⟨_, results_row_tmp_cell rfl _ _ w.heap.size 39 #[.int .i64 0, .slice none 0 0] _ rfl HPH.out Tryd.underlying39 rfl (by kernel_rfl) ⟨w.heap.size + 1, 0, none⟩ rfl (.int .i64 1) (by simp [go_sem, q3]), ?_⟩
    exact ⟨none, 0, 0, rfl, ⟨rfl, Nat.le_refl _, sl_nil _ _, fun _ a h => by cases h⟩, HPB.out, fun _ h => by cases h⟩
  · by_cases hbig : ((8 * xs.length : Nat) : Int) < a
    · rw [if_pos (.inr hbig)] at hG
      have x1 : 8 * (xs.length : Int) < a := by omega
      clear hbig
      obtain ⟨⟨p0, pf0, r1, rf1⟩, ⟨p1, pf1⟩, ph, pb, pg⟩ := pk_store HPP0.out (.int .i64 0) (.slice none 0 0)
      have hc2 := HCP0.out.apart (p := ⟨w.heap.size, 0, none⟩) (by show w.heap.size + 1 ≠ w.heap.size; omega) (.int .i64 0)
      have hc3 := hc2.apart (p := ⟨w.heap.size, 1, none⟩) (by show w.heap.size + 1 ≠ w.heap.size; omega) (.slice none 0 0)
      have s1 : ((wb.setCell ⟨w.heap.size, 0, none⟩ (.int .i64 0)).setCell ⟨w.heap.size, 1, none⟩ (.slice none 0 0)).cell? ⟨w.heap.size + 1, 0, none⟩ = some (.int .i64 0) := by rw [hc3.cell]; rfl
      have s2 := hc3.thaw 0
      have q3 : (((wb.setCell ⟨w.heap.size, 0, none⟩ (.int .i64 0)).setCell ⟨w.heap.size, 1, none⟩ (.slice none 0 0)).setCell ⟨w.heap.size + 1, 0, none⟩ (.int .i64 1)).cell? ⟨w.heap.size + 1, 0, none⟩ = some (.int .i64 1) := by rw [(hc3.stored 0 _).cell]; rfl
      have HPH := Lib.hid (ph.apart (p := ⟨w.heap.size + 1, 0, none⟩) (by show w.heap.size ≠ w.heap.size + 1; omega) (.int .i64 1))
      have hB3 := pb w.heap.size w (Nat.le_refl _) HB1.out.size HB1.out
      have HPB := Lib.hid (hB3.trans (below_store (base := w.heap.size) (g := w.heap.size + 1) (by omega) hB3.size 0 (.int .i64 1)))
      clear ph pb pg hB3 hc2 hc3
      subst hG
      go_enter_defers Tryd.func76, Tryd.ntmps76
      go_upto_region 1 with fail
      rw [HWB.out]
      go_wp2
      refine ⟨_, results_row_tmp_cell rfl _ _ w.heap.size 39 #[.int .i64 0, .slice none 0 0] _ rfl HPH.out Tryd.underlying39 rfl (by kernel_rfl) ⟨w.heap.size + 1, 0, none⟩ rfl (.int .i64 1) (by simp [go_sem, q3]), ?_⟩
      exact ⟨none, 0, 0, rfl, ⟨rfl, Nat.le_refl _, sl_nil _ _, fun _ a h => by cases h⟩, HPB.out, fun _ h => by cases h⟩
    · rw [if_neg (by omega)] at hG
      have x1 : ¬ 8 * (xs.length : Int) < a := by omega
      obtain ⟨an, han⟩ : ∃ an : Nat, a = an := ⟨a.toNat, by omega⟩
      subst han
      rw [Int.toNat_natCast, drop_bits xs an (by omega)] at hG
      have HRF := Lib.hid (readFrom_any A c xs an wb HA.out HBY.out (by omega) HCC.out (by omega))
      have hm8 : an % 8 < 8 := by omega
      have hys : (xs.drop (an / 8)).length ≤ 1500 := by rw [List.length_drop]; omega
      have hanb : an ≤ 12000 := by omega
      have HAN : Hid (an ≤ 8 * xs.length) := Lib.hid (by omega)
      generalize xs.drop (an / 8) = ys at *
      generalize an % 8 = m at *
      have HG := Lib.hid hG
      clear hbig hG h1 h2 hneg
      have hneg : ¬ (an : Int) < 0 := by omega
      go_enter_defers Tryd.func76, Tryd.ntmps76
      go_upto_region 1 with fail
      rw [HWB.out]
      go_wp2_with fail
      refine HRF.out.mono ?_
      rintro e w1 ⟨gr, rfl, hgr, hr1, hb1⟩
      have HGR := Lib.hid hgr; have HR1 := Lib.hid hr1; have HBW1 := Lib.hid (HB1.out.trans (hb1.mono HB1.out.size)); have HPP1 := Lib.hid (HPP0.out.under hb1 HPP0.out.lt); have HCP1 := Lib.hid (HCP0.out.under hb1 HCP0.out.lt); have HWD1 := Lib.hid (HWD.out.under hb1)
      have HS1 : Hid (w.heap.size + 2 ≤ w1.heap.size) := Lib.hid (by have := hb1.size; have := HSZ.out; omega)
      clear hgr hr1 hb1 HRF HPP0 HCP0 HWD HB1 HA HBY HCC
      -- the decoder
      have hbD : Below w1.heap.size w1 (w1.alloc (.cells #[.pointer (some ⟨gr, 0, none⟩), .slice none 0 0, .int .i64 0] 131)) := (Below.refl _ _).alloc (Nat.le_refl _) _
      have hrl : gr < w1.heap.size := by obtain ⟨cs, h⟩ := HR1.out.has; exact h.lt
      have hD : DeAt (w.heap.size + 2) 0 0 w1.heap.size gr m (w1.alloc (.cells #[.pointer (some ⟨gr, 0, none⟩), .slice none 0 0, .int .i64 0] 131)) (startG (restOf ys m)) := by
        refine ⟨HS1.out, .inr (Nat.zero_le _), by have := HGR.out; have := HSZ.out; omega, .inr (Nat.zero_le _), by omega, ⟨Nat.le_trans HS1.out hbD.size, Nat.zero_le _⟩, rfl, ys, m, none, 0, 0, 0, Has.made _ _ _, ⟨HR1.out.under hbD (Nat.le_refl _), rfl, ?_, rfl, World.ownsRow_nil _ _ _ _, fun k h => (by cases h), fun i hi1 hi2 => ?_⟩⟩
        · show (m : Int) = m + 0; omega
        · have : (0 : Int) = i := hi1; omega
      have HD := Lib.hid hD
      have hat0 := at_any gr ys m _ (HR1.out.under hbD (Nat.le_refl _))
      have HAT0 := Lib.hid hat0
      have q0 : (w1.alloc (.cells #[.pointer (some ⟨gr, 0, none⟩), .slice none 0 0, .int .i64 0] 131)).cell? ⟨w1.heap.size, 0, none⟩ = some (.pointer (some ⟨gr, 0, none⟩)) := by rw [(Has.made w1 131 _).cell]; rfl
      have HPK := Lib.hid (packet_dec (w.heap.size + 2) w1.heap.size gr m (restOf ys m) _ HD.out (HWD1.out.under hbD) (by have := HGL.out; omega) (by rw [restOf_length]; omega))
      have HB2 := Lib.hid (HBW1.out.trans (hbD.mono HBW1.out.size)); have HPP := Lib.hid (HPP1.out.under hbD HPP1.out.lt); have HCP := Lib.hid (HCP1.out.under hbD HCP1.out.lt)
      clear hD hbD hat0 hrl HPP1 HCP1 HWD1 HBW1 HR1
      go_wp2_with fail
      refine HAT0.out.mono ?_
      rintro e w2 ⟨rfl, rfl⟩
      go_wp2_with fail
      obtain ⟨P5, hP5⟩ : ∃ P5, oneS 5 (startG (restOf ys m)) = P5 := ⟨_, rfl⟩
      obtain ⟨R, hR⟩ : ∃ R, runL (astOf P5.1) 0 P5.2 = R := ⟨_, rfl⟩
      have hG := HG.out
      rw [hP5] at hG HPK
      rw [hR] at hG HPK
      have HG2 := Lib.hid hG; have HP5 := Lib.hid hP5; have HR := Lib.hid hR
      clear hG hP5 hR HG HAT0
      by_cases hs : (restOf ys m).length < 8
      · have hG := HG2.out
        have h5 := one5_short _ hs
        rw [HP5.out] at h5
        rw [if_pos (show P5.2.e ≠ 0 by rw [h5]; decide), h5] at hG
        have HC := Lib.hid (HPK.out.mono fun e w' (h : DecPost _ _ _ _ _ _ R _ e w') => And.intro (h.1.elim (fun h => h.2) (fun h => absurd hs h.1)) h.2)
        subst hG
        clear hs h5 HG2 HPK
        unfold panE at HC
        refine HC.out.mono ?_
        rintro e w3 ⟨rfl, hb3⟩
        have hcp := HCP.out.under hb3 (by omega)
        have hpp := HPP.out.under hb3 (by omega)
        have q1 : w3.cell? ⟨w.heap.size + 1, 0, none⟩ = some (.int .i64 0) := by rw [hcp.cell]; rfl
        have q2 := hcp.thaw 0
        have q3 : (w3.setCell ⟨w.heap.size + 1, 0, none⟩ (.int .i64 10)).cell? ⟨w.heap.size + 1, 0, none⟩ = some (.int .i64 10) := by rw [(hcp.stored 0 _).cell]; rfl
        have hbw : Below w.heap.size w w3 := HB2.out.trans (hb3.mono (by omega))
        have HBW := Lib.hid (hbw.trans (below_store (w := w3) (base := w.heap.size) (g := w.heap.size + 1) (by omega) hbw.size 0 (.int .i64 10)))
        have HPQ := Lib.hid (hpp.apart (p := ⟨w.heap.size + 1, 0, none⟩) (by show w.heap.size ≠ w.heap.size + 1; omega) (.int .i64 10))
        clear hbw
        refine leaves_cons (f := 89) (args := #[.pointer (some ⟨w.heap.size + 1, 0, none⟩)]) (by simp) (by simp [go_sem]) ?_
        refine (catch_get ⟨w.heap.size + 1, 0, none⟩ 0 10 [] w3 q1 q2).mono ?_
        rintro e u' w'' ⟨rfl, rfl, rfl⟩
        show Leaves _ _ _ _ [] .returning _
        refine ⟨_, results_row_tmp_cell rfl _ _ w.heap.size 39 #[.int .i64 0, .slice none 0 0] _ rfl HPQ.out Tryd.underlying39 rfl (by kernel_rfl) ⟨w.heap.size + 1, 0, none⟩ rfl (.int .i64 10) (by simp [go_sem, q3]), ?_⟩
        exact ⟨none, 0, 0, rfl, ⟨rfl, Nat.le_refl _, sl_nil _ _, fun _ a h => by cases h⟩, HBW.out, fun _ h => by cases h⟩
      · have h5 := one5_long _ hs
        rw [HP5.out] at h5
        have he5 : P5.2.e = 0 := by rw [h5]; rfl
        have hG := HG2.out
        rw [if_neg (show ¬ P5.2.e ≠ 0 from fun k => k he5)] at hG
        cases hk : knownB P5.1
        · rw [if_pos hk] at hG
          have HC := Lib.hid (HPK.out.mono fun e w' (h : DecPost _ _ _ _ _ _ R _ e w') => And.intro (h.1.elim (fun h => absurd h.1 hs) (fun h => h.2.elim (fun h => h.2) (fun h => absurd h.1 (by rw [hk]; decide)))) h.2)
          subst hG
          clear hs h5 HG2 HPK hk he5
          unfold panE at HC
          refine HC.out.mono ?_
          rintro e w3 ⟨rfl, hb3⟩
          have hcp := HCP.out.under hb3 (by omega)
          have hpp := HPP.out.under hb3 (by omega)
          have q1 : w3.cell? ⟨w.heap.size + 1, 0, none⟩ = some (.int .i64 0) := by rw [hcp.cell]; rfl
          have q2 := hcp.thaw 0
          have q3 : (w3.setCell ⟨w.heap.size + 1, 0, none⟩ (.int .i64 50)).cell? ⟨w.heap.size + 1, 0, none⟩ = some (.int .i64 50) := by rw [(hcp.stored 0 _).cell]; rfl
          have hbw : Below w.heap.size w w3 := HB2.out.trans (hb3.mono (by omega))
          have HBW := Lib.hid (hbw.trans (below_store (w := w3) (base := w.heap.size) (g := w.heap.size + 1) (by omega) hbw.size 0 (.int .i64 50)))
          have HPQ := Lib.hid (hpp.apart (p := ⟨w.heap.size + 1, 0, none⟩) (by show w.heap.size ≠ w.heap.size + 1; omega) (.int .i64 50))
          clear hbw
          refine leaves_cons (f := 89) (args := #[.pointer (some ⟨w.heap.size + 1, 0, none⟩)]) (by simp) (by simp [go_sem]) ?_
          refine (catch_get ⟨w.heap.size + 1, 0, none⟩ 0 50 [] w3 q1 q2).mono ?_
          rintro e u' w'' ⟨rfl, rfl, rfl⟩
          show Leaves _ _ _ _ [] .returning _
          refine ⟨_, results_row_tmp_cell rfl _ _ w.heap.size 39 #[.int .i64 0, .slice none 0 0] _ rfl HPQ.out Tryd.underlying39 rfl (by kernel_rfl) ⟨w.heap.size + 1, 0, none⟩ rfl (.int .i64 50) (by simp [go_sem, q3]), ?_⟩
          exact ⟨none, 0, 0, rfl, ⟨rfl, Nat.le_refl _, sl_nil _ _, fun _ a h => by cases h⟩, HBW.out, fun _ h => by cases h⟩
        · rw [if_neg (by rw [hk]; decide)] at hG
          by_cases he : R.e ≠ 0
          · rw [if_pos he] at hG
            have HC := Lib.hid (HPK.out.mono fun e w' (h : DecPost _ _ _ _ _ _ R _ e w') => And.intro (h.1.elim (fun h => absurd h.1 hs) (fun h => h.2.elim (fun h => absurd h.1 (by rw [hk]; decide)) (fun h => h.2.elim (fun h => absurd h.1 he) (fun h => h.2)))) h.2)
            subst hG
            clear hs h5 HG2 HPK hk he5 he
            unfold panE at HC
            refine HC.out.mono ?_
            rintro e w3 ⟨rfl, hb3⟩
            have hcp := HCP.out.under hb3 (by omega)
            have hpp := HPP.out.under hb3 (by omega)
            have q1 : w3.cell? ⟨w.heap.size + 1, 0, none⟩ = some (.int .i64 0) := by rw [hcp.cell]; rfl
            have q2 := hcp.thaw 0
            have q3 : (w3.setCell ⟨w.heap.size + 1, 0, none⟩ (.int .i64 R.e)).cell? ⟨w.heap.size + 1, 0, none⟩ = some (.int .i64 R.e) := by rw [(hcp.stored 0 _).cell]; rfl
            have hbw : Below w.heap.size w w3 := HB2.out.trans (hb3.mono (by omega))
            have HBW := Lib.hid (hbw.trans (below_store (w := w3) (base := w.heap.size) (g := w.heap.size + 1) (by omega) hbw.size 0 (.int .i64 R.e)))
            have HPQ := Lib.hid (hpp.apart (p := ⟨w.heap.size + 1, 0, none⟩) (by show w.heap.size ≠ w.heap.size + 1; omega) (.int .i64 R.e))
            clear hbw
            refine leaves_cons (f := 89) (args := #[.pointer (some ⟨w.heap.size + 1, 0, none⟩)]) (by simp) (by simp [go_sem]) ?_
            refine (catch_get ⟨w.heap.size + 1, 0, none⟩ 0 R.e [] w3 q1 q2).mono ?_
            rintro e u' w'' ⟨rfl, rfl, rfl⟩
            show Leaves _ _ _ _ [] .returning _
            refine ⟨_, results_row_tmp_cell rfl _ _ w.heap.size 39 #[.int .i64 0, .slice none 0 0] _ rfl HPQ.out Tryd.underlying39 rfl (by kernel_rfl) ⟨w.heap.size + 1, 0, none⟩ rfl (.int .i64 R.e) (by simp [go_sem, q3]), ?_⟩
            exact ⟨none, 0, 0, rfl, ⟨rfl, Nat.le_refl _, sl_nil _ _, fun _ a h => by cases h⟩, HBW.out, fun _ h => by cases h⟩
          · rw [if_neg he] at hG
            have he0 : R.e = 0 := by omega
            have HC := Lib.hid (HPK.out.mono fun e w' (h : DecPost _ _ _ _ _ _ R _ e w') => And.intro (h.1.elim (fun h => absurd h.1 hs) (fun h => h.2.elim (fun h => absurd h.1 (by rw [hk]; decide)) (fun h => h.2.elim (fun h => h.2) (fun h => absurd he0 h.1)))) h.2)
            -- what the table's words left
            obtain ⟨D1, D2, wh, _, hgt⟩ := wh_of_run hk (s := P5.2) he5 (by rw [HR.out]; exact he0)
            have hrd : P5.2.rd = true := by rw [h5]; rfl
            have ho5 : P5.2.out = [(P5.1, 8)] := by rw [h5]
            obtain ⟨n, R2, hm7, hbits⟩ := hgt hrd
            have hS := wh.get P5.2 R2 n hrd he5 hm7 hbits
            rw [HR.out] at hS
            have hpl : R.place = (((([(P5.1, (8 : Int))] ++ D1).length) : Nat) : Int) := by rw [hS, ← ho5]
            have hi0 : 0 < ([(P5.1, (8 : Int))] ++ D1).length := by simp
            obtain ⟨i, hi⟩ : ∃ i, ([(P5.1, (8 : Int))] ++ D1).length = i := ⟨_, rfl⟩
            rw [hi] at hpl hi0
            rw [hpl, Int.toNat_natCast] at hG
            have HPL := Lib.hid hpl; have HI0 := Lib.hid hi0; have HG3 := Lib.hid hG
            clear hs h5 HG2 HPK hk he5 he he0 wh hgt hrd ho5 hbits hS hpl hi hi0 hG hm7
            refine HC.out.mono ?_
            rintro e w3 ⟨⟨rfl, lo, hi, hE3⟩, hb3⟩
            obtain ⟨zs, p', AG, nG, cG, L, hh, hr⟩ := hE3.mem
            obtain ⟨hlt, hL⟩ := hr.seen i HPL.out HI0.out
            have hG := HG3.out
            rw [← hL] at hG
            have hat := hr.at_
            obtain ⟨T, hT⟩ : ∃ T, totalOf R.out = T := ⟨_, rfl⟩
            rw [hT] at hat hG
            have hsz : (p' : Int) - (m : Int) = T := by omega
            have hp8 : p' ≤ 8388608 := by
              obtain ⟨g2, _, _, _, h5, h6, _⟩ := hr.r
              omega
            have HAT := Lib.hid (at_any gr zs p' w3 hr.r)
            have q4 : w3.cell? ⟨w1.heap.size, 0, none⟩ = some (.pointer (some ⟨gr, 0, none⟩)) := by rw [hh.cell]; rfl
            have q5 : w3.cell? ⟨w1.heap.size, 1, none⟩ = some (.slice AG nG cG) := by rw [hh.cell]; rfl
            have HH := Lib.hid hh; have HRR := Lib.hid hr; have HSZ2 := Lib.hid hsz; have HB3 := Lib.hid hb3
            have HG4 := Lib.hid hG
            clear hE3 hh hr hlt hL hG hat hT hsz hb3 HC HG3
            by_cases hlt : L ≠ T
            · have hG := HG4.out
              rw [if_pos hlt] at hG
              have HF := Lib.hid (dfin_len w1.heap.size _ L ((p' : Int) - (m : Int)) w3 HH.out rfl (by rw [HSZ2.out]; exact hlt))
              unfold panE at HF
              subst hG
              clear HG4 hlt q5
              go_wp2_with fail
              refine HAT.out.mono ?_
              rintro e w4 ⟨rfl, rfl⟩
              go_wp2_with fail
              refine HF.out.mono ?_
              rintro e w4 ⟨rfl, rfl⟩
              have hb3 := HB3.out
              have hcp := HCP.out.under hb3 (by omega)
              have hpp := HPP.out.under hb3 (by omega)
              have q1 : w3.cell? ⟨w.heap.size + 1, 0, none⟩ = some (.int .i64 0) := by rw [hcp.cell]; rfl
              have q2 := hcp.thaw 0
              have q3 : (w3.setCell ⟨w.heap.size + 1, 0, none⟩ (.int .i64 20)).cell? ⟨w.heap.size + 1, 0, none⟩ = some (.int .i64 20) := by rw [(hcp.stored 0 _).cell]; rfl
              have hbw : Below w.heap.size w w3 := HB2.out.trans (hb3.mono (by omega))
              have HBW := Lib.hid (hbw.trans (below_store (w := w3) (base := w.heap.size) (g := w.heap.size + 1) (by omega) hbw.size 0 (.int .i64 20)))
              have HPQ := Lib.hid (hpp.apart (p := ⟨w.heap.size + 1, 0, none⟩) (by show w.heap.size ≠ w.heap.size + 1; omega) (.int .i64 20))
              clear hbw
              refine leaves_cons (f := 89) (args := #[.pointer (some ⟨w.heap.size + 1, 0, none⟩)]) (by simp) (by simp [go_sem]) ?_
              refine (catch_get ⟨w.heap.size + 1, 0, none⟩ 0 20 [] w3 q1 q2).mono ?_
              rintro e u' w'' ⟨rfl, rfl, rfl⟩
              show Leaves _ _ _ _ [] .returning _
              refine ⟨_, results_row_tmp_cell rfl _ _ w.heap.size 39 #[.int .i64 0, .slice none 0 0] _ rfl HPQ.out Tryd.underlying39 rfl (by kernel_rfl) ⟨w.heap.size + 1, 0, none⟩ rfl (.int .i64 20) (by simp [go_sem, q3]), ?_⟩
              exact ⟨none, 0, 0, rfl, ⟨rfl, Nat.le_refl _, sl_nil _ _, fun _ a h => by cases h⟩, HBW.out, fun _ h => by cases h⟩
            · have hlt2 : L = (p' : Int) - (m : Int) := by rw [HSZ2.out]; omega
              have hG := HG4.out
              rw [if_neg hlt] at hG
              by_cases h8 : 8184 < T
              · rw [if_pos h8] at hG
                have HF := Lib.hid (dfin_long w1.heap.size _ ((p' : Int) - (m : Int)) w3 HH.out (by rw [← hlt2]; rfl) (by rw [HSZ2.out]; exact h8))
                unfold panE at HF
                subst hG
                clear HG4 hlt q5 h8 hlt2
                go_wp2_with fail
                refine HAT.out.mono ?_
                rintro e w4 ⟨rfl, rfl⟩
                go_wp2_with fail
                refine HF.out.mono ?_
                rintro e w4 ⟨rfl, rfl⟩
                have hb3 := HB3.out
                have hcp := HCP.out.under hb3 (by omega)
                have hpp := HPP.out.under hb3 (by omega)
                have q1 : w3.cell? ⟨w.heap.size + 1, 0, none⟩ = some (.int .i64 0) := by rw [hcp.cell]; rfl
                have q2 := hcp.thaw 0
                have q3 : (w3.setCell ⟨w.heap.size + 1, 0, none⟩ (.int .i64 2)).cell? ⟨w.heap.size + 1, 0, none⟩ = some (.int .i64 2) := by rw [(hcp.stored 0 _).cell]; rfl
                have hbw : Below w.heap.size w w3 := HB2.out.trans (hb3.mono (by omega))
                have HBW := Lib.hid (hbw.trans (below_store (w := w3) (base := w.heap.size) (g := w.heap.size + 1) (by omega) hbw.size 0 (.int .i64 2)))
                have HPQ := Lib.hid (hpp.apart (p := ⟨w.heap.size + 1, 0, none⟩) (by show w.heap.size ≠ w.heap.size + 1; omega) (.int .i64 2))
                clear hbw
                refine leaves_cons (f := 89) (args := #[.pointer (some ⟨w.heap.size + 1, 0, none⟩)]) (by simp) (by simp [go_sem]) ?_
                refine (catch_get ⟨w.heap.size + 1, 0, none⟩ 0 2 [] w3 q1 q2).mono ?_
                rintro e u' w'' ⟨rfl, rfl, rfl⟩
                show Leaves _ _ _ _ [] .returning _
                refine ⟨_, results_row_tmp_cell rfl _ _ w.heap.size 39 #[.int .i64 0, .slice none 0 0] _ rfl HPQ.out Tryd.underlying39 rfl (by kernel_rfl) ⟨w.heap.size + 1, 0, none⟩ rfl (.int .i64 2) (by simp [go_sem, q3]), ?_⟩
                exact ⟨none, 0, 0, rfl, ⟨rfl, Nat.le_refl _, sl_nil _ _, fun _ a h => by cases h⟩, HBW.out, fun _ h => by cases h⟩
              · rw [if_neg h8] at hG
                have HF := Lib.hid (dfin_ok w1.heap.size _ ((p' : Int) - (m : Int)) w3 HH.out (by rw [← hlt2]; rfl) (by rw [HSZ2.out]; exact h8))
                rw [← HSZ2.out] at hG
                subst hG
                have hcp := HCP.out.under HB3.out (by omega)
                have hpp := HPP.out.under HB3.out (by omega)
                obtain ⟨⟨p0, pf0, r1, rf1⟩, ⟨p1, pf1⟩, ph, pb, pg⟩ := pk_store hpp (.int .i64 P5.1) (.slice AG nG cG)
                have hc2 := hcp.apart (p := ⟨w.heap.size, 0, none⟩) (by show w.heap.size + 1 ≠ w.heap.size; omega) (.int .i64 P5.1)
                have hc3 := hc2.apart (p := ⟨w.heap.size, 1, none⟩) (by show w.heap.size + 1 ≠ w.heap.size; omega) (.slice AG nG cG)
                have s1 : ((w3.setCell ⟨w.heap.size, 0, none⟩ (.int .i64 P5.1)).setCell ⟨w.heap.size, 1, none⟩ (.slice AG nG cG)).cell? ⟨w.heap.size + 1, 0, none⟩ = some (.int .i64 0) := by rw [hc3.cell]; rfl
                have s2 := hc3.thaw 0
                have q3 : (((w3.setCell ⟨w.heap.size, 0, none⟩ (.int .i64 P5.1)).setCell ⟨w.heap.size, 1, none⟩ (.slice AG nG cG)).setCell ⟨w.heap.size + 1, 0, none⟩ (.int .i64 0)).cell? ⟨w.heap.size + 1, 0, none⟩ = some (.int .i64 0) := by rw [(hc3.stored 0 _).cell]; rfl
                have HPH := Lib.hid (ph.apart (p := ⟨w.heap.size + 1, 0, none⟩) (by show w.heap.size ≠ w.heap.size + 1; omega) (.int .i64 0))
                have hbw : Below w.heap.size w w3 := HB2.out.trans (HB3.out.mono (by omega))
                have hB3 := pb w.heap.size w (Nat.le_refl _) hbw.size hbw
                have HPB := Lib.hid (hB3.trans (below_store (base := w.heap.size) (g := w.heap.size + 1) (by omega) hB3.size 0 (.int .i64 0)))
                have hob : ∀ k, Value.ownBlock (.slice AG nG cG) = some k → w.heap.size + 2 ≤ k := fun k hk => (HRR.out.g.lt k hk).1
                have ho1 := own_keep HRR.out.g pg (fun e => by have := hob _ e; omega)
                have ho2 := own_keep ho1 (only_store (only_refl _ (some (w.heap.size + 1))) (p := ⟨w.heap.size + 1, 0, none⟩) rfl (.int .i64 0)) (fun e => by have := hob _ e; omega)
                have HSL := Lib.hid (sli_own ho2 HRR.out.len)
                clear ph pb pg hB3 hc2 hc3 hcp hpp hbw hob ho1 ho2 HG4 hlt h8 hlt2
                go_wp2_with fail
                refine HAT.out.mono ?_
                rintro e w4 ⟨rfl, rfl⟩
                go_wp2_with fail
                refine HF.out.mono ?_
                rintro e w4 ⟨rfl, rfl⟩
                go_wp2
                refine leaves_cons (f := 89) (args := #[.pointer (some ⟨w.heap.size + 1, 0, none⟩)]) (by simp) (by simp [go_sem]) ?_
                refine (idle_get ⟨w.heap.size + 1, 0, none⟩ _).mono ?_
                rintro e u' w'' ⟨rfl, rfl, rfl⟩
                show Leaves _ _ _ _ [] .returning _
                refine ⟨_, results_row_tmp_cell rfl _ _ w.heap.size 39 #[.int .i64 P5.1, .slice AG nG cG] _ rfl HPH.out Tryd.underlying39 rfl (by kernel_rfl) ⟨w.heap.size + 1, 0, none⟩ rfl (.int .i64 0) (by simp [go_sem, q3]), ?_⟩
                exact ⟨AG, nG, cG, rfl, HSL.out, HPB.out, fun a h => by have := (HRR.out.g.lt a.block (by rw [h]; rfl)).1; omega⟩
theorem opk_get (A : Option Addr) (c : Nat) (xs : List Nat) (a : Int) (w : World) (ha : At8 w A xs) (hb : ∀ x ∈ xs, x < 256) (hn : xs.length ≤ 1500) (hc : xs.length ≤ c) (h1 : -9223372036854775808 ≤ a) (h2 : a ≤ 9223372036854775807) (hwd : Wd w) :
    Calls Tryd.prog 76 #[.slice A xs.length c, .int .i64 a] w (GetPost (getF (bitsOf xs) a) w) :=
  (opk_get2 A c xs a w ha hb hn hc h1 h2 hwd).mono fun _ _ ⟨A', n', c', h1, h2, h3, _⟩ => ⟨A', n', c', h1, h2, h3⟩
end Go.Proofs.YtamnhnleipnhdaaDoor
