/-
  package packet's decoder handles variables as the reference takes them of bits; walk.packet over a decoder; finish; readFrom.
-/
import Derived.Test.YtamnhnleipnhdaaDoorDecNum

namespace Go.Proofs.YtamnhnleipnhdaaDoor

open Go.RowKit

open BitsM

theorem fetch_rd (v : Int) (s : WS) (h : s.rd = true) : fetch v s = if s.bits.length < widthOf v then (0, { s with e := 10 }) else (((num (s.bits.take (widthOf v)) : Nat) : Int), { s with bits := s.bits.drop (widthOf v) }) := by rw [fetch, h, if_pos rfl]
theorem dec_numc (base lo hi g gr : Nat) (p0 : Int) (hgb : 0 < base) : NumC (DeAt base lo hi g gr p0) 91 g base lo hi := by
  refine ⟨enters_of Tryd.func91 (by kernel_rfl) rfl, hgb, fun w s h => h.sz, fun w w' s h hb => h.under hb, ?_, ?_⟩
  · intro v s w k hv h5 h he hinv hwd hf
    have hfe := fetch_rd v s h.rd
    by_cases hs : s.bits.length < widthOf v
    · rw [hfe, if_pos hs] at hf; exact absurd hf (by show ¬ ((10 : Int) = 0); decide)
    · rw [hfe, if_neg hs]
      by_cases h7 : v = 7
      · subst h7
        exact (dnum_seven base lo hi g gr p0 s w h hwd hs).mono fun e w' ⟨a, b, c⟩ => ⟨a, b, c⟩
      · exact (dnum_other base lo hi g gr p0 v hv h5 h7 s w h hwd hs (by have := hinv.g; have := hinv.o; omega)).mono fun e w' ⟨a, b, c⟩ => ⟨a, b, c⟩
  · intro v s w k hv h5 h he hinv hwd hf
    have hfe := fetch_rd v s h.rd
    by_cases hs : s.bits.length < widthOf v
    · rw [hfe, if_pos hs]
      exact dnum_short base lo hi g gr p0 v hv s w h hwd hs
    · rw [hfe, if_neg hs] at hf; exact absurd he hf

theorem may5 (n : Nat) (h : n < 256) : mayOf 5 (n : Int) = true :=
  List.all_eq_true.1 (show (List.range 256).all (fun n => mayOf 5 (n : Int)) = true from by kernel_rfl) n (List.mem_range.2 h)
/-- The packet's number, taken of bits. -/
theorem one5_short (bits : List Bool) (h : bits.length < 8) : (oneS 5 (startG bits)).2.e = 10 := by
  have hfe := fetch_rd 5 (startG bits) rfl
  rw [w5, if_pos (show (startG bits).bits.length < 8 from h)] at hfe
  rw [oneS, if_neg (show ¬ (startG bits).e ≠ 0 from fun k => k rfl), hfe, if_pos (by show (10 : Int) ≠ 0; decide)]
theorem one5_long (bits : List Bool) (h : ¬ bits.length < 8) : oneS 5 (startG bits) = (((num (bits.take 8) : Nat) : Int), { startG bits with bits := bits.drop 8, out := [(((num (bits.take 8) : Nat) : Int), (8 : Int))] }) := by
  have hfe := fetch_rd 5 (startG bits) rfl
  rw [w5, if_neg (show ¬ (startG bits).bits.length < 8 from h)] at hfe
  have hn : num (bits.take 8) < 256 := by
    have h1 := num_lt (bits.take 8)
    have h2 : (bits.take 8).length = 8 := by rw [List.length_take]; omega
    rw [h2] at h1
    exact h1
  have hm : mayOf 5 ((num ((startG bits).bits.take 8) : Nat) : Int) = true := may5 _ hn
  rw [oneS, if_neg (show ¬ (startG bits).e ≠ 0 from fun k => k rfl), hfe, if_neg (show ¬ (startG bits).e ≠ 0 from fun k => k rfl), if_neg (by simp only [hm]; decide)]
  show (_, keep 5 _ _) = _
  rw [keep, if_neg (by decide), if_pos rfl, w5]
  rfl

/-- What walk.packet answers over a decoder. -/
def DecPost (base g gr : Nat) (p0 : Int) (bits : List Bool) (id : Int) (R : WS) (w : World) (e : Ending) (w' : World) : Prop :=
  ((bits.length < 8 ∧ e = panE 10) ∨ (¬ bits.length < 8 ∧ ((knownB id = false ∧ e = panE 50) ∨ (knownB id = true ∧ ((R.e = 0 ∧ e = .returned (.int .i64 id) ∧ ∃ lo hi, DeAt base lo hi g gr p0 w' R) ∨ (R.e ≠ 0 ∧ e = panE R.e)))))) ∧ Below base w w'

set_option maxRecDepth 100000 in
set_option maxHeartbeats 4000000 in
theorem packet_dec (base g gr : Nat) (p0 : Int) (bits : List Bool) (w : World) (h : DeAt base 0 0 g gr p0 w (startG bits)) (hwd : Wd w) (hgb : 0 < base) (hV : bits.length ≤ 500000) :
    Calls Tryd.prog 59 #[.agg #[.func (.func 91) #[.pointer (some ⟨g, 0, none⟩)] #[]]] w (DecPost base g gr p0 bits (oneS 5 (startG bits)).1 (runL (astOf (oneS 5 (startG bits)).1) 0 (oneS 5 (startG bits)).2) w) := by
  have hb0 : Below w.heap.size w (w.alloc (.cells #[.func (.func 91) #[.pointer (some ⟨g, 0, none⟩)] #[]] 93)) := (Below.refl _ _).alloc (Nat.le_refl _) _
  have hbx : Has (w.alloc (.cells #[.func (.func 91) #[.pointer (some ⟨g, 0, none⟩)] #[]] 93)) w.heap.size 93 #[.func (.func 91) #[.pointer (some ⟨g, 0, none⟩)] #[]] := Has.made _ _ _
  have HF0 := Lib.hid (frz_call (lo := 0) (hi := 0) hb0 h.sz.1 (Nat.zero_le _))
  have HBX := Lib.hid hbx; have HWD := Lib.hid (hwd.under hb0); have HX := Lib.hid (h.under hb0)
  clear hb0 hbx h hwd
  by_cases hs : bits.length < 8
  · have hc5 := dnum_short base 0 0 g gr p0 5 (by decide) _ _ HX.out HWD.out (by rw [show widthOf ((5 : Nat) : Int) = 8 from w5]; exact hs)
    unfold panE at hc5
    have HC5 := Lib.hid hc5; have HS := Lib.hid hs
    clear hc5 hs
    go_enter Tryd.func59, Tryd.ntmps59
    go_wp2_with fail
    refine HC5.out.mono ?_
    rintro e w1 ⟨rfl, hf1⟩
    have HF1 := Lib.hid (HF0.out.trans hf1)
    clear hf1 HC5 HF0
    go_wp2
    exact ⟨rfl, .inl ⟨HS.out, rfl⟩, HF1.out.b⟩
  · have hc5 := dnum_five base 0 0 g gr p0 _ _ HX.out HWD.out (by rw [w5]; exact hs)
    have h5 := one5_long bits hs
    have hinv : Inv (oneS 5 (startG bits)).2 1 := inv_one 5 (by decide) (by decide) (startG bits) 1 (by
      have := inv_get (bits := bits) hV
      simpa using this)
    have hpe : (((num ((startG bits).bits.take (widthOf 5)) : Nat) : Int), keep 5 ((num ((startG bits).bits.take (widthOf 5)) : Nat) : Int) { startG bits with bits := (startG bits).bits.drop (widthOf 5) }) = oneS 5 (startG bits) := by
      rw [h5, w5, keep, if_neg (by decide), if_pos rfl, w5]
      rfl
    have he5 : (oneS 5 (startG bits)).2.e = 0 := by rw [h5]; rfl
    obtain ⟨P5, hP5⟩ : ∃ P5, oneS 5 (startG bits) = P5 := ⟨_, rfl⟩
    rw [hP5] at hpe hinv he5 ⊢
    obtain ⟨id, s5⟩ := P5
    simp only [Prod.mk.injEq] at hpe
    obtain ⟨q1, q2⟩ := hpe
    rw [q1] at q2 hc5
    rw [q2] at hc5
    simp only at hinv he5 ⊢
    obtain ⟨R, hR⟩ : ∃ R, runL (astOf id) 0 s5 = R := ⟨_, rfl⟩
    rw [hR]
    have HRR := Lib.hid hR
    have HC5 := Lib.hid hc5; have HS := Lib.hid hs; have HI := Lib.hid hinv; have HE5 := Lib.hid he5
    clear hc5 hs h5 hinv q1 q2 hP5 hR he5
    go_enter Tryd.func59, Tryd.ntmps59
    go_wp2_with fail
    refine HC5.out.mono ?_
    rintro e w1 ⟨rfl, he1, hf1⟩
    have HE1 := Lib.hid he1
    have HF1 := Lib.hid (HF0.out.trans hf1); have HBX1 := Lib.hid (HBX.out.frz (.inl rfl) hf1); have HWD1 := Lib.hid (HWD.out.frz hgb hf1)
    clear he1 hf1 HC5 HF0 HBX HWD HX
    cases hk : knownB id
    · have HL := Lib.hid (layout_no id hk w1)
      have HK := Lib.hid hk
      have hnil : ∀ w, (binOp .eql 123 (.slice none 0 0) (.slice none 0 0)).run Tryd.prog w = .ok (.bool true) w := fun w => Lib.run_eql_slice_nil w _ _ none 0 0 0 0 Tryd.underlying123
      clear hk
      go_wp2_with fail
      refine HL.out.mono ?_
      rintro e w2 ⟨rfl, rfl⟩
      go_wp2
      exact ⟨rfl, .inr ⟨HS.out, .inl ⟨HK.out, rfl⟩⟩, HF1.out.b⟩
    · have HL := Lib.hid (layout_yes w1.heap.size id hk w1 (Nat.le_refl _))
      have HK := Lib.hid hk
      clear hk
      go_wp2_with fail
      refine HL.out.mono ?_
      rintro e w2 ⟨A2, n2, c2, l, rfl, hp, hnd, hb⟩
      obtain ⟨pre, a, post, sh⟩ := shape_of HK.out
      have hast := no5_ast HK.out
      have hn0 : 0 < n2 := by
        rw [← hp.len]
        cases l with
        | nil => have := sh.seven; rw [← hnd] at this; simp [ndPts, c7] at this
        | cons x l => simp
      obtain ⟨ad, rfl⟩ := hp.addr hn0
      have hE2 := HE1.out.zone hb
      have hnil : ∀ w, (binOp .eql 123 (.slice (some ad) n2 c2) (.slice none 0 0)).run Tryd.prog w = .ok (.bool false) w := fun w => Lib.run_eql_slice_nil w _ _ (some ad) n2 c2 0 0 Tryd.underlying123
      have hsz := szPts_le l
      rw [hnd] at hsz
      have hth := through_any (dec_numc base w1.heap.size w2.heap.size g gr p0 hgb) 1000 (Nat.le_refl _) l (by omega) (by rw [hnd]; exact sh.good) (by rw [hnd]; exact hast.1) s5 w2 (some ad) n2 c2 0 hE2 HE5.out (by rw [hnd, sh.seven]; exact HI.out) (HWD1.out.under hb) hp
      rw [hnd, HRR.out] at hth
      have HTH := Lib.hid hth; have HF2 := Lib.hid (HF1.out.trans (frz_call hb HE1.out.sz.1 (Nat.zero_le _)))
      have HBX2 := Lib.hid (HBX1.out.under hb HBX1.out.lt)
      have k0 : w2.cell? ⟨w.heap.size, 0, none⟩ = some (.func (.func 91) #[.pointer (some ⟨g, 0, none⟩)] #[]) := by rw [HBX2.out.cell]; rfl
      clear hth hE2 hsz hast sh hp hnd hb hn0 HL HBX1 HWD1 HF1 HE1
      by_cases h0 : R.e = 0
      · have HC := Lib.hid (HTH.out.mono fun e w' h => h.fine h0)
        have H0 := Lib.hid h0
        clear h0 HTH
        go_wp2_with fail
        refine HC.out.mono ?_
        rintro e w3 ⟨rfl, hst, hf3⟩
        have HST := Lib.hid hst; have HB := Lib.hid (HF2.out.b.trans hf3.b)
        clear hst hf3 HC k0
        go_wp2
        go_ret
        exact ⟨.inr ⟨HS.out, .inr ⟨HK.out, .inl ⟨H0.out, rfl, _, _, HST.out⟩⟩⟩, HB.out⟩
      · have HC := Lib.hid (HTH.out.mono fun e w' h => h.bad h0)
        have H0 := Lib.hid h0
        clear h0 HTH
        unfold panE at HC
        go_wp2_with fail
        refine HC.out.mono ?_
        rintro e w3 ⟨rfl, hf3⟩
        have HB := Lib.hid (HF2.out.b.trans hf3.b)
        clear hf3 HC k0
        go_wp2
        exact ⟨rfl, .inr ⟨HS.out, .inr ⟨HK.out, .inr ⟨H0.out, rfl⟩⟩⟩, HB.out⟩
end Go.Proofs.YtamnhnleipnhdaaDoor
