/-
  package packet's Items, by contract.
-/
import Derived.Test.YtamnhnleipnhdaaDoorEncItems

namespace Go.Proofs.YtamnhnleipnhdaaDoor

open Go.RowKit

theorem sli_under {base : Nat} {w w' : World} {A : Option Addr} {n c : Nat} {V : List Int} (h : SlI base w A n c V) (hb : Below base w w') (hB : base ≤ w'.heap.size) : SlI w'.heap.size w' A n c V := by
  have h2 := h.below hb
  exact ⟨h2.len, h2.cap, h2.sl, fun hc a ha => Nat.lt_of_lt_of_le (h2.low hc a ha) hB⟩
/-- What Items answers. -/
def ItemsPost (T : List (Int × Int) × Int) (w : World) (e : Ending) (w' : World) : Prop :=
  ∃ A' m' c', e = .returned (.tuple #[.slice A' m' c', .int .i64 T.2]) ∧ SlP w' A' m' c' T.1 ∧ Below w.heap.size w w'

set_option maxRecDepth 100000 in
set_option maxHeartbeats 4000000 in
theorem opk_items (id : Int) (A : Option Addr) (n c : Nat) (V : List Int) (w : World) (hV : SlI w.heap.size w A n c V) (hn : n ≤ 10000) (hwd : Wd w) :
    Calls Tryd.prog 28 #[pkV id A n c] w (ItemsPost (itemsF id V) w) := by
  have hmf : ∀ (fn : Fn) (first cap : Array Value) (w : World), (Instr.makeFunc fn first cap).run Tryd.prog w = .ok (.func fn first cap) w := fun _ _ _ _ => rfl
  have hb1 : Below w.heap.size w ((w.alloc (.cells #[.int .i64 id, .slice A n c] 39)).alloc (.cells #[.int .i64 0] 29)) := ((Below.refl _ _).alloc (Nat.le_refl _) _).alloc (by simp) _
  have hsz : ((w.alloc (.cells #[.int .i64 id, .slice A n c] 39)).alloc (.cells #[.int .i64 0] 29)).heap.size = w.heap.size + 2 := by simp
  have hcp : Has ((w.alloc (.cells #[.int .i64 id, .slice A n c] 39)).alloc (.cells #[.int .i64 0] 29)) (w.heap.size + 1) 29 #[.int .i64 0] := by
    have h := Has.made (w.alloc (.cells #[.int .i64 id, .slice A n c] 39)) 29 #[.int .i64 0]
    rw [show (w.alloc (.cells #[.int .i64 id, .slice A n c] 39)).heap.size = w.heap.size + 1 by simp] at h
    exact h
  obtain ⟨wb, hwb⟩ : ∃ wb, (w.alloc (.cells #[.int .i64 id, .slice A n c] 39)).alloc (.cells #[.int .i64 0] 29) = wb := ⟨_, rfl⟩
  rw [hwb] at hb1 hsz hcp
  have hE : EnAt (w.heap.size + 2) 0 0 (w.heap.size + 2) id (wb.alloc (.cells #[.int .i64 id, .slice A n c, .slice none 0 0, .int .i64 0, .int .i64 0] 91)) ⟨V, false, [], [], [], 0, 0⟩ := by
    refine ⟨Nat.le_refl _, .inr (Nat.zero_le _), ⟨by simp [hsz], Nat.zero_le _⟩, rfl, A, n, c, none, 0, 0, ?_, ⟨?_, rfl, World.ownsRow_nil _ _ _ _, fun k h => (by cases h), fun x h => (by cases h)⟩⟩
    · have h := Has.made wb 91 #[.int .i64 id, .slice A n c, .slice none 0 0, .int .i64 0, .int .i64 0]
      rw [hsz] at h
      exact h
    · have h2 := hV.below (hb1.alloc hb1.size (.cells #[.int .i64 id, .slice A n c, .slice none 0 0, .int .i64 0, .int .i64 0] 91))
      exact ⟨h2.len, h2.cap, h2.sl, fun hc a ha => by have := h2.low hc a ha; omega⟩
  have hbE : Below wb.heap.size wb (wb.alloc (.cells #[.int .i64 id, .slice A n c, .slice none 0 0, .int .i64 0, .int .i64 0] 91)) := (Below.refl _ _).alloc (Nat.le_refl _) _
  have hpk := packet_enc (w.heap.size + 2) (w.heap.size + 2) id V _ hE ((hwd.under hb1).under hbE) (by have := hwd.low; omega) (by rw [hV.len]; omega)
  have HB1 := Lib.hid hb1; have HSZ := Lib.hid hsz; have HCP := Lib.hid (hcp.under hbE hcp.lt); have HPK := Lib.hid hpk
  obtain ⟨wE, hwE⟩ : ∃ wE, wb.alloc (.cells #[.int .i64 id, .slice A n c, .slice none 0 0, .int .i64 0, .int .i64 0] 91) = wE := ⟨_, rfl⟩
  rw [hwE] at HPK HCP hbE
  have HBE := Lib.hid hbE; have HWB := Lib.hid hwb; have HWE := Lib.hid hwE
  have HVL := Lib.hid hV.len
  obtain ⟨R, hR⟩ : ∃ R, runL (astOf id) 0 (startS id V) = R := ⟨_, rfl⟩
  obtain ⟨T, hT⟩ : ∃ T, itemsF id V = T := ⟨_, rfl⟩
  rw [hT]
  have hT2 := hT
  unfold itemsF at hT2
  rw [hR] at hT2 HPK
  have HT := Lib.hid hT2; have HR := Lib.hid hR
  clear hpk hE hb1 hsz hcp hV hbE hwb hwE hR hT hT2 hwd
  unfold pkV
  go_enter_defers Tryd.func28, Tryd.ntmps28
  go_wp2_with fail
  rw [HWB.out, HWE.out]
  cases hk : knownB id
  · have hT := HT.out
    rw [if_pos hk] at hT
    have HC := Lib.hid (HPK.out.mono fun e w' (h : EncPost _ _ id R wE e w') => And.intro (h.1.elim (fun h => h.2) (fun h => absurd h.1 (by rw [hk]; decide))) h.2)
    subst hT
    clear hk HT HPK
    unfold panE at HC
    refine HC.out.mono ?_
    rintro e w3 ⟨rfl, hb3⟩
    have hcp := HCP.out.under hb3 (by omega)
    have q1 : w3.cell? ⟨w.heap.size + 1, 0, none⟩ = some (.int .i64 0) := by rw [hcp.cell]; rfl
    have q2 := hcp.thaw 0
    have q3 : (w3.setCell ⟨w.heap.size + 1, 0, none⟩ (.int .i64 50)).cell? ⟨w.heap.size + 1, 0, none⟩ = some (.int .i64 50) := by rw [(hcp.stored 0 _).cell]; rfl
    have hbw : Below w.heap.size w w3 := HB1.out.trans ((HBE.out.mono HB1.out.size).trans (hb3.mono (by omega)))
    have HBW := Lib.hid (hbw.trans (below_store (w := w3) (base := w.heap.size) (g := w.heap.size + 1) (by omega) hbw.size 0 (.int .i64 50)))
    clear hbw
    refine leaves_cons (f := 57) (args := #[.pointer (some ⟨w.heap.size + 1, 0, none⟩)]) (by simp) (by simp [go_sem]) ?_
    refine (catch_items ⟨w.heap.size + 1, 0, none⟩ 0 50 [] w3 q1 q2).mono ?_
    rintro e u' w'' ⟨rfl, rfl, rfl⟩
    simp [Leaves, settle, results, Tryd.results28, go_sem, q3]
    exact ⟨none, 0, 0, rfl, ⟨rfl, sl_nil _ _⟩, HBW.out⟩
  · have hT := HT.out
    rw [if_neg (by rw [hk]; decide)] at hT
    by_cases he : R.e ≠ 0
    · rw [if_pos he] at hT
      have HC := Lib.hid (HPK.out.mono fun e w' (h : EncPost _ _ id R wE e w') => And.intro (h.1.elim (fun h => absurd h.1 (by rw [hk]; decide)) (fun h => h.2.elim (fun h => absurd h.1 he) (fun h => h.2))) h.2)
      subst hT
      clear hk HT HPK he
      unfold panE at HC
      refine HC.out.mono ?_
      rintro e w3 ⟨rfl, hb3⟩
      have hcp := HCP.out.under hb3 (by omega)
      have q1 : w3.cell? ⟨w.heap.size + 1, 0, none⟩ = some (.int .i64 0) := by rw [hcp.cell]; rfl
      have q2 := hcp.thaw 0
      have q3 : (w3.setCell ⟨w.heap.size + 1, 0, none⟩ (.int .i64 R.e)).cell? ⟨w.heap.size + 1, 0, none⟩ = some (.int .i64 R.e) := by rw [(hcp.stored 0 _).cell]; rfl
      have hbw : Below w.heap.size w w3 := HB1.out.trans ((HBE.out.mono HB1.out.size).trans (hb3.mono (by omega)))
      have HBW := Lib.hid (hbw.trans (below_store (w := w3) (base := w.heap.size) (g := w.heap.size + 1) (by omega) hbw.size 0 (.int .i64 R.e)))
      clear hbw
      refine leaves_cons (f := 57) (args := #[.pointer (some ⟨w.heap.size + 1, 0, none⟩)]) (by simp) (by simp [go_sem]) ?_
      refine (catch_items ⟨w.heap.size + 1, 0, none⟩ 0 R.e [] w3 q1 q2).mono ?_
      rintro e u' w'' ⟨rfl, rfl, rfl⟩
      simp [Leaves, settle, results, Tryd.results28, go_sem, q3]
      exact ⟨none, 0, 0, rfl, ⟨rfl, sl_nil _ _⟩, HBW.out⟩
    · rw [if_neg he] at hT
      have he0 : R.e = 0 := by omega
      have HC := Lib.hid (HPK.out.mono fun e w' (h : EncPost _ _ id R wE e w') => And.intro (h.1.elim (fun h => absurd h.1 (by rw [hk]; decide)) (fun h => h.2.elim (fun h => h.2) (fun h => absurd he0 h.1))) h.2)
      have HK := Lib.hid hk; have HE := Lib.hid he0; have HT2 := Lib.hid hT
      clear hk HT HPK he hT he0
      refine HC.out.mono ?_
      rintro e w3 ⟨⟨rfl, lo, hi, hE3⟩, hb3⟩
      by_cases hRV : R.V ≠ []
      · have hT := HT2.out
        rw [if_pos hRV] at hT
        have HF := Lib.hid (finish_more _ lo hi _ id R w3 hE3 hRV)
        unfold panE at HF
        subst hT
        clear hRV HT2 hE3 HC
        have hcp := HCP.out.under hb3 (by omega)
        have q1 : w3.cell? ⟨w.heap.size + 1, 0, none⟩ = some (.int .i64 0) := by rw [hcp.cell]; rfl
        have HB3 := Lib.hid hb3
        clear hb3 hcp q1
        go_wp2_with fail
        refine HF.out.mono ?_
        rintro e w4 ⟨rfl, rfl⟩
        have hb3 := HB3.out
        have hcp := HCP.out.under hb3 (by omega)
        have q1 : w3.cell? ⟨w.heap.size + 1, 0, none⟩ = some (.int .i64 0) := by rw [hcp.cell]; rfl
        have q2 := hcp.thaw 0
        have q3 : (w3.setCell ⟨w.heap.size + 1, 0, none⟩ (.int .i64 20)).cell? ⟨w.heap.size + 1, 0, none⟩ = some (.int .i64 20) := by rw [(hcp.stored 0 _).cell]; rfl
        have hbw : Below w.heap.size w w3 := HB1.out.trans ((HBE.out.mono HB1.out.size).trans (hb3.mono (by omega)))
        have HBW := Lib.hid (hbw.trans (below_store (w := w3) (base := w.heap.size) (g := w.heap.size + 1) (by omega) hbw.size 0 (.int .i64 20)))
        clear hbw
        refine leaves_cons (f := 57) (args := #[.pointer (some ⟨w.heap.size + 1, 0, none⟩)]) (by simp) (by simp [go_sem]) ?_
        refine (catch_items ⟨w.heap.size + 1, 0, none⟩ 0 20 [] w3 q1 q2).mono ?_
        rintro e u' w'' ⟨rfl, rfl, rfl⟩
        simp [Leaves, settle, results, Tryd.results28, go_sem, q3]
        exact ⟨none, 0, 0, rfl, ⟨rfl, sl_nil _ _⟩, HBW.out⟩
      · have hT := HT2.out
        rw [if_neg hRV] at hT
        have hRV0 : R.V = [] := by simpa using hRV
        by_cases h8 : 8184 < totalOf R.out
        · rw [if_pos h8] at hT
          have HF := Lib.hid (finish_long _ lo hi _ id R w3 hE3 hRV0 h8)
          unfold panE at HF
          subst hT
          have HB3 := Lib.hid hb3
          clear hRV hRV0 h8 HT2 hE3 HC hb3
          go_wp2_with fail
          refine HF.out.mono ?_
          rintro e w4 ⟨rfl, rfl⟩
          have hb3 := HB3.out
          have hcp := HCP.out.under hb3 (by omega)
          have q1 : w3.cell? ⟨w.heap.size + 1, 0, none⟩ = some (.int .i64 0) := by rw [hcp.cell]; rfl
          have q2 := hcp.thaw 0
          have q3 : (w3.setCell ⟨w.heap.size + 1, 0, none⟩ (.int .i64 2)).cell? ⟨w.heap.size + 1, 0, none⟩ = some (.int .i64 2) := by rw [(hcp.stored 0 _).cell]; rfl
          have hbw : Below w.heap.size w w3 := HB1.out.trans ((HBE.out.mono HB1.out.size).trans (hb3.mono (by omega)))
          have HBW := Lib.hid (hbw.trans (below_store (w := w3) (base := w.heap.size) (g := w.heap.size + 1) (by omega) hbw.size 0 (.int .i64 2)))
          clear hbw
          refine leaves_cons (f := 57) (args := #[.pointer (some ⟨w.heap.size + 1, 0, none⟩)]) (by simp) (by simp [go_sem]) ?_
          refine (catch_items ⟨w.heap.size + 1, 0, none⟩ 0 2 [] w3 q1 q2).mono ?_
          rintro e u' w'' ⟨rfl, rfl, rfl⟩
          simp [Leaves, settle, results, Tryd.results28, go_sem, q3]
          exact ⟨none, 0, 0, rfl, ⟨rfl, sl_nil _ _⟩, HBW.out⟩
        · rw [if_neg h8] at hT
          obtain ⟨D1, D2, R0, wh, _, hS⟩ := items_form (V := V) HK.out (by rw [HR.out]; exact HE.out)
          rw [HR.out] at hS
          have hout : R.out = [(id, 8)] ++ D1 ++ (0, 13) :: D2 := by rw [hS]
          obtain ⟨p, hp⟩ : ∃ p, ([(id, (8 : Int))] ++ D1).length = p := ⟨_, rfl⟩
          have hpl : R.place = p := by rw [hS, ← hp]
          have hpo : p < R.out.length := by rw [hout, List.length_append, hp, List.length_cons]; omega
          have hgp : (R.out.getD p (0, 0)).2 = 13 := by rw [hout, ← hp, getD_mid2]
          obtain ⟨pre, a, post, sh⟩ := shape_of HK.out
          have hinv := inv_runL (astOf id) 0 (startS id V) 0 sh.good (by rw [sh.seven]; exact inv_start (by rw [HVL.out]; omega))
          rw [HR.out] at hinv
          have HF := Lib.hid (finish_ok _ lo hi _ id R w3 hE3 hRV0 h8 p hpl hpo hgp (by have := hinv.o; omega))
          rw [hpl, Int.toNat_natCast] at hT
          subst hT
          have HB3 := Lib.hid hb3
          clear hRV hRV0 h8 HT2 hE3 HC hb3 wh hS hout hp hpl hpo hgp sh hinv
          go_wp2_with fail
          refine HF.out.mono ?_
          rintro e w4 ⟨A4, m4, c4, rfl, hsl, hal, hb4⟩
          have hb34 := HB3.out.trans hb4
          have hcp := HCP.out.under hb34 (by omega)
          have q1 : w4.cell? ⟨w.heap.size + 1, 0, none⟩ = some (.int .i64 0) := by rw [hcp.cell]; rfl
          have q2 := hcp.thaw 0
          have q3 : (w4.setCell ⟨w.heap.size + 1, 0, none⟩ (.int .i64 0)).cell? ⟨w.heap.size + 1, 0, none⟩ = some (.int .i64 0) := by rw [(hcp.stored 0 _).cell]; rfl
          have hbw : Below w.heap.size w w4 := HB1.out.trans ((HBE.out.mono HB1.out.size).trans (hb34.mono (by omega)))
          have hst : Below w4.heap.size w4 w4 := Below.refl _ _
          have HBW := Lib.hid (hbw.trans (below_store (w := w4) (base := w.heap.size) (g := w.heap.size + 1) (by omega) hbw.size 0 (.int .i64 0)))
          have HSL : Hid (SlP (w4.setCell ⟨w.heap.size + 1, 0, none⟩ (.int .i64 0)) A4 m4 c4 _) := Lib.hid ⟨hsl.len, hsl.sl.1, hsl.sl.2.1, fun ad ha j u hu => by
            have h0 := hsl.sl.2.2 ad ha j u hu
            rw [World.cell?_setCell_other _ _ _ _ (fun e => by
              have h1 := congrArg Addr.block e
              rw [add_blk] at h1
              have h2 := hal ad ha
              simp only at h1
              omega)]
            exact h0⟩
          clear hbw hb34 hcp hsl hb4 hst HF hal
          go_wp2
          refine leaves_cons (f := 57) (args := #[.pointer (some ⟨w.heap.size + 1, 0, none⟩)]) (by simp) (by simp [go_sem]) ?_
          refine (idle_items ⟨w.heap.size + 1, 0, none⟩ _).mono ?_
          rintro e u' w'' ⟨rfl, rfl, rfl⟩
          simp [Leaves, settle, results, Tryd.results28, go_sem, q3]
          exact ⟨A4, m4, c4, rfl, HSL.out, HBW.out⟩
end Go.Proofs.YtamnhnleipnhdaaDoor
