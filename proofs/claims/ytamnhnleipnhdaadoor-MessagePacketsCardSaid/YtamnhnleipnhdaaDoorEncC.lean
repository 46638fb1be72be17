/-
  package packet's encoder handles variables as the reference's numbers are taken; finish; walk.packet over an encoder.
-/
import Derived.Test.YtamnhnleipnhdaaDoorEncNum

import Derived.Deep.RegionHeld3

import Derived.StillTailTactics

namespace Go.Proofs.YtamnhnleipnhdaaDoor

open Go.RowKit

theorem EnAt.same {base lo hi g : Nat} {id : Int} {w : World} {s s' : WS} (h : EnAt base lo hi g id w s) (h1 : s'.V = s.V) (h2 : s'.out = s.out) (h3 : s'.place = s.place) (h4 : s'.rd = s.rd) : EnAt base lo hi g id w s' := by
  obtain ⟨AV, nV, cV, AO, nO, cO, a, b⟩ := h.mem
  refine ⟨h.gb, h.gz, h.sz, by rw [h4]; exact h.rd, AV, nV, cV, AO, nO, cO, ?_, ⟨by rw [h1]; exact b.v, by rw [h2]; exact b.len, by rw [h2]; exact b.o, b.oz, by rw [h2]; exact b.wid⟩⟩
  have e : enCells id s' (totalOf s'.out) AV nV cV AO nO cO = enCells id s (totalOf s.out) AV nV cV AO nO cO := by
    unfold enCells
    rw [h2, h3]
  rw [e]; exact a
theorem enc_numc (base lo hi g : Nat) (id : Int) (hgb : 0 < base) : NumC (EnAt base lo hi g id) 58 g base lo hi := by
  refine ⟨enters_of Tryd.func58 (by kernel_rfl) rfl, hgb, fun w s h => h.sz, fun w w' s h hb => h.under hb, ?_, ?_⟩
  · intro v s w k hv h5 h he hinv hwd hf
    have ho : s.out.length ≤ 1000000 := by have := hinv.o; omega
    by_cases h7 : v = 7
    · subst h7
      have hfe : fetch (7 : Nat) s = (0, s) := by rw [fetch, h.rd, if_neg (by decide), if_pos (by rfl)]
      rw [hfe]
      exact (enum_seven base lo hi g id s w h hwd hgb ho).mono fun e w' ⟨a, b, c⟩ => ⟨a, b, c⟩
    · have k7 : ¬ ((v : Int) = 7) := by omega
      have k5 : ¬ ((v : Int) = 5) := by omega
      have hfe : fetch v s = if s.V = [] then (0, { s with e := 20 }) else (s.V.headD 0, { s with V := s.V.tail }) := by rw [fetch, h.rd, if_neg (by decide), if_neg k7]
      cases hV : s.V with
      | nil => rw [hfe, if_pos hV] at hf; exact absurd hf (by show ¬ ((20 : Int) = 0); decide)
      | cons V0 VT =>
        rw [hfe, if_neg (by rw [hV]; simp), hV]
        refine (enum_other base lo hi g id v h5 h7 s V0 VT hV w h hwd hgb ho).mono fun e w' ⟨a, b, c⟩ => ⟨a, b.same ?_ ?_ ?_ ?_, c⟩
        all_goals (rw [keep, if_neg k7, if_neg k5] <;> rfl)
  · intro v s w k hv h5 h he hinv hwd hf
    by_cases h7 : v = 7
    · subst h7
      have hfe : fetch (7 : Nat) s = (0, s) := by rw [fetch, h.rd, if_neg (by decide), if_pos (by rfl)]
      rw [hfe] at hf
      exact absurd he hf
    · have k7 : ¬ ((v : Int) = 7) := by omega
      have hfe : fetch v s = if s.V = [] then (0, { s with e := 20 }) else (s.V.headD 0, { s with V := s.V.tail }) := by rw [fetch, h.rd, if_neg (by decide), if_neg k7]
      by_cases hV : s.V = []
      · rw [hfe, if_pos hV]
        exact enum_none base lo hi g id v h5 h7 s hV w h
      · rw [hfe, if_neg hV] at hf
        exact absurd he hf

/-! Which blocks are an encoder's is known: those that are made behind it are none. -/
theorem EnAt.zone {base lo hi g : Nat} {id : Int} {w w' : World} {s : WS} (h : EnAt base lo hi g id w s) (hb : Below w.heap.size w w') : EnAt base w.heap.size w'.heap.size g id w' s := by
  obtain ⟨AV, nV, cV, AO, nO, cO, a, b⟩ := h.mem
  refine ⟨h.gb, .inl a.lt, ⟨Nat.le_trans h.sz.1 hb.size, Nat.le_refl _⟩, h.rd, AV, nV, cV, AO, nO, cO, a.under hb a.lt, ?_⟩
  have r := b.under hb h.sz.1
  exact ⟨r.v, r.len, r.o, fun k hk => .inl (b.o.lt k hk).2, r.wid⟩
theorem no5_ast {id : Int} (h : knownB id = true) : no5L (astOf id) = true ∧ szL (astOf id) ≤ 900 := by
  rcases known_cases h with rfl | rfl | rfl | rfl | rfl | rfl | rfl | rfl | rfl | rfl | rfl | rfl
  all_goals exact ⟨by kernel_rfl, of_decide_eq_true (by kernel_rfl)⟩

/-- What walk.packet answers over an encoder. -/
def EncPost (base g : Nat) (id : Int) (R : WS) (w : World) (e : Ending) (w' : World) : Prop :=
  ((knownB id = false ∧ e = panE 50) ∨ (knownB id = true ∧ ((R.e = 0 ∧ e = .returned (.int .i64 id) ∧ ∃ lo hi, EnAt base lo hi g id w' R) ∨ (R.e ≠ 0 ∧ e = panE R.e)))) ∧ Below base w w'

set_option maxRecDepth 100000 in
set_option maxHeartbeats 4000000 in
theorem packet_enc (base g : Nat) (id : Int) (V : List Int) (w : World) (h : EnAt base 0 0 g id w ⟨V, false, [], [], [], 0, 0⟩) (hwd : Wd w) (hgb : 0 < base) (hV : V.length ≤ 500000) :
    Calls Tryd.prog 59 #[.agg #[.func (.func 58) #[.pointer (some ⟨g, 0, none⟩)] #[]]] w (EncPost base g id (runL (astOf id) 0 (startS id V)) w) := by
  obtain ⟨R, hR⟩ : ∃ R, runL (astOf id) 0 (startS id V) = R := ⟨_, rfl⟩
  rw [hR]
  have HRR := Lib.hid hR; clear hR
  have hb0 : Below w.heap.size w (w.alloc (.cells #[.func (.func 58) #[.pointer (some ⟨g, 0, none⟩)] #[]] 93)) := (Below.refl _ _).alloc (Nat.le_refl _) _
  have hbx : Has (w.alloc (.cells #[.func (.func 58) #[.pointer (some ⟨g, 0, none⟩)] #[]] 93)) w.heap.size 93 #[.func (.func 58) #[.pointer (some ⟨g, 0, none⟩)] #[]] := Has.made _ _ _
  have HF0 := Lib.hid (frz_call (lo := 0) (hi := 0) hb0 h.sz.1 (Nat.zero_le _))
  have hc5 := enum_five base 0 0 g id _ _ (h.under hb0) (hwd.under hb0) (by simp)
  rw [w5] at hc5
  have HC5 := Lib.hid hc5; have HBX := Lib.hid hbx; have HWD := Lib.hid (hwd.under hb0)
  clear hc5 hb0 hbx h hwd
  go_enter Tryd.func59, Tryd.ntmps59
  go_wp2_with fail
  refine HC5.out.mono ?_
  rintro e w1 ⟨rfl, he1, hf1⟩
  have HE1 : Hid (EnAt base 0 0 g id w1 (startS id V)) := Lib.hid he1
  have HF1 := Lib.hid (HF0.out.trans hf1); have HBX1 := Lib.hid (HBX.out.frz (.inl rfl) hf1); have HWD1 := Lib.hid (HWD.out.frz hgb hf1)
  clear he1 hf1 HC5 HF0 HBX HWD
  cases hk : knownB id
  · have HL := Lib.hid (layout_no id hk w1)
    have HK := Lib.hid hk
    have hnil : ∀ w, (binOp .eql 123 (.slice none 0 0) (.slice none 0 0)).run Tryd.prog w = .ok (.bool true) w := fun w => Lib.run_eql_slice_nil w _ _ none 0 0 0 0 Tryd.underlying123
    clear hk
    go_wp2_with fail
    refine HL.out.mono ?_
    rintro e w2 ⟨rfl, rfl⟩
    go_wp2
    exact ⟨rfl, .inl ⟨HK.out, rfl⟩, HF1.out.b⟩
  · have HL := Lib.hid (layout_yes w1.heap.size id hk w1 (Nat.le_refl _))
    have HK := Lib.hid hk
    clear hk
    go_wp2_with fail
    refine HL.out.mono ?_
    rintro e w2 ⟨A2, n2, c2, l, rfl, hp, hnd, hb⟩
    obtain ⟨pre, a, post, sh⟩ := shape_of HK.out
    have hast := no5_ast HK.out
    have hn0 : 0 < n2 := by
      rw [← hp.len]
      cases l with
      | nil => have := sh.seven; rw [← hnd] at this; simp [ndPts, c7] at this
      | cons x l => simp
    obtain ⟨ad, rfl⟩ := hp.addr hn0
    have hE2 := HE1.out.zone hb
    have hnil : ∀ w, (binOp .eql 123 (.slice (some ad) n2 c2) (.slice none 0 0)).run Tryd.prog w = .ok (.bool false) w := fun w => Lib.run_eql_slice_nil w _ _ (some ad) n2 c2 0 0 Tryd.underlying123
    have hsz := szPts_le l
    rw [hnd] at hsz
    have hth := through_any (enc_numc base w1.heap.size w2.heap.size g id hgb) 1000 (Nat.le_refl _) l (by omega) (by rw [hnd]; exact sh.good) (by rw [hnd]; exact hast.1) (startS id V) w2 (some ad) n2 c2 0 hE2 rfl (by rw [hnd, sh.seven]; exact inv_start hV) (HWD1.out.under hb) hp
    rw [hnd] at hth
    have HTH := Lib.hid hth; have HF2 := Lib.hid (HF1.out.trans (frz_call hb HE1.out.sz.1 (Nat.zero_le _)))
    have HBX2 := Lib.hid (HBX1.out.under hb HBX1.out.lt)
    have k0 : w2.cell? ⟨w.heap.size, 0, none⟩ = some (.func (.func 58) #[.pointer (some ⟨g, 0, none⟩)] #[]) := by rw [HBX2.out.cell]; rfl
    clear hth hE2 hsz hast sh hp hnd hb hn0 HL HBX1 HWD1 HF1 HE1
    rw [HRR.out] at HTH
    by_cases h0 : R.e = 0
    · have HC := Lib.hid (HTH.out.mono fun e w' h => h.fine h0)
      have H0 := Lib.hid h0
      clear h0 HTH
      go_wp2_with fail
      refine HC.out.mono ?_
      rintro e w3 ⟨rfl, hst, hf3⟩
      have HS := Lib.hid hst; have HB := Lib.hid (HF2.out.b.trans hf3.b)
      clear hst hf3 HC k0
      go_wp2
      go_ret
      exact ⟨.inr ⟨HK.out, .inl ⟨H0.out, rfl, _, _, HS.out⟩⟩, HB.out⟩
    · have HC := Lib.hid (HTH.out.mono fun e w' h => h.bad h0)
      have H0 := Lib.hid h0
      clear h0 HTH
      unfold panE at HC
      go_wp2_with fail
      refine HC.out.mono ?_
      rintro e w3 ⟨rfl, hf3⟩
      have HB := Lib.hid (HF2.out.b.trans hf3.b)
      clear hf3 HC k0
      go_wp2
      exact ⟨rfl, .inr ⟨HK.out, .inr ⟨H0.out, rfl⟩⟩, HB.out⟩
end Go.Proofs.YtamnhnleipnhdaaDoor
