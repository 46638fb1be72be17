/-
  linesidelaw09.PduSeals, walked.
-/
import Derived.Test.YtojbinpicoeppaaLawAwake09
namespace Go.Proofs.Ytojbinpicoeppaa
open Go.RowKit
open Go.Great

theorem sealU {W0 W w' : World} {q : Pdu} {e : Ending} (hW : Below W0.heap.size W0 W) (h : SealPost q W e w') :
    ∃ A' c', e = .returned (pdV q A' c') ∧ Hid (Sl w' 1 A' q.body.length c' (u8s q.body)) ∧ Hid (Below W.heap.size W w') ∧ Below W0.heap.size W0 w' := by
  obtain ⟨A', c', h1, h2, _, _, h3⟩ := h
  exact ⟨A', c', h1, h2, h3, hW.trans (h3.out.mono hW.size)⟩
set_option maxRecDepth 100000 in
set_option maxHeartbeats 4000000 in
theorem pduSeals_walk (k : Key4) (p : Pdu) (A : Option Addr) (c : Nat) (w : World) (hkk : k.ok) (hk : p.ok) (_hm : p.body.length ≤ maxLen) (_hc : p.body.length ≤ c) (hs : Sl w 1 A p.body.length c (u8s p.body)) :
    Calls Try.prog 5 #[keyV k, pdV p A c] w fun e w' => e = .returned (.bool true) ∧ Below w.heap.size w w' := by
  obtain ⟨wa, hwa, hba, hka, hpa⟩ := pd_boxK k p A c w
  have hsl := fun W (hW : Below w.heap.size w W) => Sl.under hs hW
  have HA := Lib.hid (awake9_any wa)
  have HWA := Lib.hid hwa; have HBA := Lib.hid hba; have HSL := Lib.hid hsl; have HK := Lib.hid hk; have HKK := Lib.hid hkk
  have HC := Lib.hid (fun W (hW : Below wa.heap.size wa W) => And.intro (key_cells (k := k) (hka.under hW hka.lt)) (has_seven (hpa.under hW hpa.lt)))
  obtain ⟨⟨c0, c1, c2, c3⟩, k0, k1, k2, k3, k4, k5, k6⟩ := HC.out wa (Below.refl _ _)
  unfold maxLen at _hm
  clear hwa hba hka hpa hsl hs hk hkk
  unfold keyV keyA pdV pdA at *
  go_enter Try.func5, Try.ntmps5
  go_upto_region 1 with fail
  rw [HWA.out]
  clear HWA
  go_wp2_with fail
  refine HA.out.mono ?_
  rintro e w1 ⟨rfl, hb1⟩
  clear HA k0 k1 k2 k3 k4 k5 k6 c0 c1 c2 c3
  obtain ⟨⟨c0, c1, c2, c3⟩, k0, k1, k2, k3, k4, k5, k6⟩ := HC.out w1 hb1
  have HB1 := Lib.hid hb1
  clear hb1
  by_cases hin : p.body.length ≤ 2000
  · have x1 : ¬ (2000 : Int) < (p.body.length : Int) := by omega
    have hup := fun W (hW : Below w1.heap.size w1 W) => (HBA.out.trans (HB1.out.mono HBA.out.size)).trans (hW.mono (HBA.out.trans (HB1.out.mono HBA.out.size)).size)
    have HC1 := Lib.hid (fun W (hW : Below w1.heap.size w1 W) => HC.out W (HB1.out.trans (hW.mono HB1.out.size)))
    have HS1 := Lib.hid (fun W (hW : Below w1.heap.size w1 W) => (opd_seal k HKK.out p A c HK.out hin W (HSL.out W (hup W hW))).mono fun e w' h => sealU hW h)
    have HS2 := Lib.hid (fun W (hW : Below w1.heap.size w1 W) => (ref_seal k HKK.out p A c HK.out hin W (HSL.out W (hup W hW))).mono fun e w' h => And.intro h.1 (And.intro (Lib.hid h.2) (hW.trans (h.2.mono hW.size))))
    have HR1 := Lib.hid (fun W (hW : Below w1.heap.size w1 W) => (opd_right k HKK.out p A c HK.out hin W (HSL.out W (hup W hW))).mono fun e w' h => And.intro h.1 (hW.trans (h.2.mono hW.size)))
    have HR2 := Lib.hid (fun W (hW : Below w1.heap.size w1 W) => (ref_right k HKK.out p A c HK.out hin W (HSL.out W (hup W hW))).mono fun e w' h => And.intro h.1 (hW.trans (h.2.mono hW.size)))
    have hq8 : bytes8 (pdSeal k p).body := by rw [seal_body]; exact HK.out.2.2.1
    have hqs : ∀ W, Below w1.heap.size w1 W → Sl W 1 A (pdSeal k p).body.length c (u8s (pdSeal k p).body) := fun W hW => by rw [seal_body]; exact HSL.out W (hup W hW)
    have HSM := Lib.hid (fun (A4 : Option Addr) (r4 : Nat) (W : World) (hW : Below w1.heap.size w1 W) (hs4 : Sl W 1 A4 (pdSeal k p).body.length r4 (u8s (pdSeal k p).body)) => (ref_same (pdSeal k p) (pdSeal k p) A4 A r4 c hq8 hq8 W hs4 (hqs W hW)).mono fun e w' h => And.intro h.1 (hW.trans (h.2.mono hW.size)))
    simp only [pdEq_self] at HSM
    have HUP := Lib.hid hup
    have hbd : Below w1.heap.size w1 w1.drew := below_dr (Below.refl _ _)
    clear hq8 hqs hup HSL HC HB1
    generalize pdSeal k p = q at *
    generalize decide (pdRight k p) = r at *
    unfold keyV keyA pdV pdA at *
    go_upto_region 4 with fail
    go_cut [6] (fun s6 wx => s6 = .bool true ∧ Below w1.heap.size w1 wx)
    case first =>
      go_region_held3 (fun W => (W.cell? ⟨w.heap.size, 0, none⟩ = some (.int .u32 (k.a : Nat)) ∧ W.cell? ⟨w.heap.size, 1, none⟩ = some (.int .u32 (k.b : Nat)) ∧ W.cell? ⟨w.heap.size, 2, none⟩ = some (.int .u32 (k.c : Nat)) ∧ W.cell? ⟨w.heap.size, 3, none⟩ = some (.int .u32 (k.d : Nat))) ∧ W.cell? ⟨w.heap.size + 1, 0, none⟩ = some (.int .i64 p.kind) ∧ W.cell? ⟨w.heap.size + 1, 1, none⟩ = some (.int .i64 p.dir) ∧ W.cell? ⟨w.heap.size + 1, 2, none⟩ = some (.int .i64 p.train) ∧ W.cell? ⟨w.heap.size + 1, 3, none⟩ = some (.int .u32 (p.a : Nat)) ∧ W.cell? ⟨w.heap.size + 1, 4, none⟩ = some (.int .u32 (p.b : Nat)) ∧ W.cell? ⟨w.heap.size + 1, 5, none⟩ = some (.slice A p.body.length c) ∧ W.cell? ⟨w.heap.size + 1, 6, none⟩ = some (.int .u64 (p.mac : Nat)))
        (first | exact HC1.out _ (by assumption) | go_keep) (first
        | (go_at_call 19; (with_reducible refine (HS1.out _ (by assumption)).mono ?_); rintro e v4 ⟨A4, r4, rfl, hs4, hb4, hc4⟩)
        | (go_at_call 20; (with_reducible refine (HS2.out _ (by assumption)).mono ?_); rintro e v5 ⟨rfl, hb5, hc5⟩)
        | (go_at_call 18; have hs5 := hs4.out.under hb5.out; (with_reducible refine (HSM.out A4 r4 v5 hc5 hs5).mono ?_); rintro e v6 ⟨rfl, hb6⟩)
        | (go_at_call 18; have hs5 := hs4.out; (with_reducible refine (HSM.out A4 r4 v4 hc4 hs5).mono ?_); rintro e v6 ⟨rfl, hb6⟩))
      all_goals
        go_wp2_with fail
        go_meet
        exact ⟨rfl, hb6⟩
    case rest =>
      obtain ⟨rfl, hbc⟩ := hcut
      clear c0 c1 c2 c3 k0 k1 k2 k3 k4 k5 k6 hbd
      obtain ⟨⟨c0, c1, c2, c3⟩, k0, k1, k2, k3, k4, k5, k6⟩ := HC1.out wc hbc
      have hbd : Below w1.heap.size w1 wc.drew := below_dr hbc
      clear hbc
      go_upto_region 5 with fail
      go_region_held3 (fun W => (W.cell? ⟨w.heap.size, 0, none⟩ = some (.int .u32 (k.a : Nat)) ∧ W.cell? ⟨w.heap.size, 1, none⟩ = some (.int .u32 (k.b : Nat)) ∧ W.cell? ⟨w.heap.size, 2, none⟩ = some (.int .u32 (k.c : Nat)) ∧ W.cell? ⟨w.heap.size, 3, none⟩ = some (.int .u32 (k.d : Nat))) ∧ W.cell? ⟨w.heap.size + 1, 0, none⟩ = some (.int .i64 p.kind) ∧ W.cell? ⟨w.heap.size + 1, 1, none⟩ = some (.int .i64 p.dir) ∧ W.cell? ⟨w.heap.size + 1, 2, none⟩ = some (.int .i64 p.train) ∧ W.cell? ⟨w.heap.size + 1, 3, none⟩ = some (.int .u32 (p.a : Nat)) ∧ W.cell? ⟨w.heap.size + 1, 4, none⟩ = some (.int .u32 (p.b : Nat)) ∧ W.cell? ⟨w.heap.size + 1, 5, none⟩ = some (.slice A p.body.length c) ∧ W.cell? ⟨w.heap.size + 1, 6, none⟩ = some (.int .u64 (p.mac : Nat)))
        (first | exact HC1.out _ (by assumption) | go_keep) (first
        | (go_at_call 21; (with_reducible refine (HR1.out _ (by assumption)).mono ?_); rintro e v4 ⟨rfl, hb4⟩)
        | (go_at_call 22; (with_reducible refine (HR2.out _ (by assumption)).mono ?_); rintro e v5 ⟨rfl, hb5⟩))
      all_goals
        have HBF := Lib.hid (HUP.out _ hb5)
        go_wp2
        go_ret
        exact ⟨by simp, HBF.out⟩
  · have x1 : (2000 : Int) < (p.body.length : Int) := by omega
    have HBF := Lib.hid (HBA.out.trans (HB1.out.mono HBA.out.size))
    clear HB1 HC HSL HK HKK
    go_wp2
    go_ret
    exact ⟨rfl, HBF.out⟩
end Go.Proofs.Ytojbinpicoeppaa
