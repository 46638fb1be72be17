/-
  linesidelaw09.PduDecodes, walked.
-/
import Derived.Test.YtojbinpicoeppaaLawAwake09
import Derived.Test.YtojbinpicoeppaaOpenPd
namespace Go.Proofs.Ytojbinpicoeppaa
open Go.RowKit
open Go.Great

theorem dec_same {xs : List Nat} {p q : Pdu} {a b : Int} (h : DecAns xs p a) (k : DecAns xs q b) : p = q ∧ a = b := by
  rcases h with ⟨h1, h2⟩ | ⟨h1, h2, h3⟩ <;> rcases k with ⟨k1, k2⟩ | ⟨k1, k2, k3⟩
  · rw [h1] at k1
    injection k1 with k1
    exact ⟨k1, by rw [h2, k2]⟩
  · rw [h1] at k1; cases k1
  · rw [h1] at k1; cases k1
  · exact ⟨by rw [h2, k2], by rw [h3, k3]⟩
theorem dec_8 {xs : List Nat} (hx : bytes8 xs) {p : Pdu} {a : Int} (h : DecAns xs p a) : p.ok := by
  rcases h with ⟨h1, _⟩ | ⟨_, h2, _⟩
  · exact dec_ok hx h1
  · rw [h2]; exact ⟨by decide, by decide, fun x hx => (by cases hx), by decide⟩
theorem dec_len {xs : List Nat} {p : Pdu} {a : Int} (h : DecAns xs p a) : p.body.length ≤ xs.length := by
  rcases h with ⟨h1, _⟩ | ⟨_, h2, _⟩
  · unfold pdDec at h1
    split at h1
    · injection h1 with h1
      rw [← h1]
      exact parse_body_len xs
    · cases h1
  · rw [h2]; exact Nat.zero_le _

set_option maxRecDepth 100000 in
set_option maxHeartbeats 4000000 in
theorem pduDecodes_walk (A : Option Addr) (n c : Nat) (xs : List Nat) (w : World) (hin : InBody w A n c xs) :
    Calls Try.prog 4 #[.slice A n c] w fun e w' => e = .returned (.bool true) ∧ Below w.heap.size w w' := by
  obtain ⟨rfl, hc, hm, hs, hb⟩ := hin
  have HA := Lib.hid (awake9_any w)
  have HS := Lib.hid hs; have HB := Lib.hid hb
  unfold maxLen at hm
  clear hs hb
  go_enter Try.func4, Try.ntmps4
  go_wp2_with fail
  refine HA.out.mono ?_
  rintro e w1 ⟨rfl, hb1⟩
  have HB1 := Lib.hid hb1
  clear HA hb1
  by_cases hin : xs.length ≤ 2000
  · have x1 : ¬ (2000 : Int) < (xs.length : Int) := by omega
    have HD1 := Lib.hid (opd_decode A c xs w1 (at8_low8 (sl_at8 HS.out) HB1.out) HB.out hin hc)
    go_wp2_with fail
    refine HD1.out.mono ?_
    rintro e w2 ⟨p, A2, c2, err, rfl, hd2, hs2, _, hb2⟩
    have HS2 := Lib.hid hs2.out; have HD2 := Lib.hid hd2; have HB2 := Lib.hid (HB1.out.trans (hb2.out.mono HB1.out.size))
    clear HD1 hd2 hs2 hb2
    unfold pdV pdA
    obtain ⟨w3, hw3⟩ : ∃ w3, w2.alloc (.cells #[.int .i64 p.kind, .int .i64 p.dir, .int .i64 p.train, .int .u32 (p.a : Nat), .int .u32 (p.b : Nat), .slice A2 p.body.length c2, .int .u64 (p.mac : Nat)] 26) = w3 := ⟨_, rfl⟩
    have hb23 : Below w2.heap.size w2 w3 := by rw [← hw3]; exact (Below.refl _ _).alloc (Nat.le_refl _) _
    have HH3 : Hid (Has w3 w2.heap.size 26 (pdA p A2 c2)) := Lib.hid (by rw [← hw3]; exact Has.made _ _ _)
    have HB3 := Lib.hid (HB2.out.trans (hb23.mono HB2.out.size))
    have HS3 := Lib.hid (HS2.out.under hb23)
    have HW3 := Lib.hid hw3
    have HD3 := Lib.hid (ref_decode_any A c xs w3 (at8_low8 (sl_at8 HS.out) HB3.out) HB.out hin hc)
    clear hw3 hb23 HS2 HB2
    go_upto_region 5 with fail
    rw [HW3.out]
    clear HW3
    go_wp2_with fail
    refine HD3.out.mono ?_
    rintro e w4 ⟨q, A4, c4, er2, rfl, hd4, hs4, _, hb4⟩
    obtain ⟨rfl, rfl⟩ := dec_same HD2.out hd4
    unfold pdV pdA
    obtain ⟨w5, hw5⟩ : ∃ w5, w4.alloc (.cells #[.int .i64 p.kind, .int .i64 p.dir, .int .i64 p.train, .int .u32 (p.a : Nat), .int .u32 (p.b : Nat), .slice A4 p.body.length c4, .int .u64 (p.mac : Nat)] 26) = w5 := ⟨_, rfl⟩
    have hb45 : Below w4.heap.size w4 w5 := by rw [← hw5]; exact (Below.refl _ _).alloc (Nat.le_refl _) _
    have hh5 : Has w5 w4.heap.size 26 (pdA p A4 c4) := by rw [← hw5]; exact Has.made _ _ _
    have hh3 := (HH3.out.under hb4.out HH3.out.lt).under hb45 (Nat.lt_of_lt_of_le HH3.out.lt hb4.out.size)
    have HB5 := Lib.hid ((HB3.out.trans (hb4.out.mono HB3.out.size)).trans (hb45.mono (HB3.out.trans (hb4.out.mono HB3.out.size)).size))
    have hok := dec_8 HB.out hd4
    have HSM := Lib.hid (ref_same p p A2 A4 c2 c4 hok.2.2.1 hok.2.2.1 w5 ((HS3.out.under hb4.out).under hb45) (hs4.out.under hb45))
    rw [pdEq_self] at HSM
    obtain ⟨k0, k1, k2, k3, k4, k5, k6⟩ := has_seven hh3
    obtain ⟨q0, q1, q2, q3, q4, q5, q6⟩ := has_seven hh5
    have HW5 := Lib.hid hw5
    unfold pdV pdA at HSM
    clear hw5 hb45 hh5 hh3 hd4 hs4 hb4 hok HD3 HS3 HB3 HH3
    go_upto_region 6 with fail
    rw [HW5.out]
    clear HW5
    go_wp2_with fail
    refine HSM.out.mono ?_
    rintro e w6 ⟨rfl, hb6⟩
    have HB6 := Lib.hid (HB5.out.trans (hb6.mono HB5.out.size))
    clear k0 k1 k2 k3 k4 k5 k6 q0 q1 q2 q3 q4 q5 q6 HB5 hb6
    go_wp2
    go_ret
    exact ⟨by simp, HB6.out⟩
  · have x1 : (2000 : Int) < (xs.length : Int) := by omega
    go_wp2
    go_ret
    exact ⟨rfl, HB1.out⟩
end Go.Proofs.Ytojbinpicoeppaa
