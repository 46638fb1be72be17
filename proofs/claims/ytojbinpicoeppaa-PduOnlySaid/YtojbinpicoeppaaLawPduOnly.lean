/-
  linesidelaw09.PduOnly, walked.
-/
import Derived.Test.YtojbinpicoeppaaLawPduDecodes
namespace Go.Proofs.Ytojbinpicoeppaa
open Go.RowKit
open Go.Great

set_option maxRecDepth 100000 in
set_option maxHeartbeats 4000000 in
theorem pduOnly_walk (A : Option Addr) (n c : Nat) (xs : List Nat) (w : World) (hin : InBody w A n c xs) :
    Calls Try.prog 7 #[.slice A n c] w fun e w' => e = .returned (.bool true) ∧ Below w.heap.size w w' := by
  obtain ⟨rfl, hc, hm, hs, hb⟩ := hin
  have HA := Lib.hid (awake9_any w)
  have HS := Lib.hid hs; have HB := Lib.hid hb
  unfold maxLen at hm
  clear hs hb
  go_enter Try.func7, Try.ntmps7
  go_wp2_with fail
  refine HA.out.mono ?_
  rintro e w1 ⟨rfl, hb1⟩
  have HB1 := Lib.hid hb1
  clear HA hb1
  by_cases hin : xs.length ≤ 2000
  · have x1 : ¬ (2000 : Int) < (xs.length : Int) := by omega
    have HD1 := Lib.hid (opd_decode A c xs w1 (at8_low8 (sl_at8 HS.out) HB1.out) HB.out hin hc)
    go_wp2_with fail
    refine HD1.out.mono ?_
    rintro e w2 ⟨p, A2, c2, err, rfl, hd2, hs2, _, hb2⟩
    have HS2 := Lib.hid hs2.out; have HB2 := Lib.hid (HB1.out.trans (hb2.out.mono HB1.out.size))
    have hok := dec_8 HB.out hd2
    have hln := dec_len hd2
    clear HD1 hs2 hb2
    unfold pdV pdA
    obtain ⟨w3, hw3⟩ : ∃ w3, w2.alloc (.cells #[.int .i64 p.kind, .int .i64 p.dir, .int .i64 p.train, .int .u32 (p.a : Nat), .int .u32 (p.b : Nat), .slice A2 p.body.length c2, .int .u64 (p.mac : Nat)] 26) = w3 := ⟨_, rfl⟩
    have hb23 : Below w2.heap.size w2 w3 := by rw [← hw3]; exact (Below.refl _ _).alloc (Nat.le_refl _) _
    have hh3 : Has w3 w2.heap.size 26 (pdA p A2 c2) := by rw [← hw3]; exact Has.made _ _ _
    have HB3 := Lib.hid (HB2.out.trans (hb23.mono HB2.out.size))
    have hs3 := HS2.out.under hb23
    have HE3 := Lib.hid (opd_encode p A2 c2 hok (by omega) w3 hs3)
    obtain ⟨k0, k1, k2, k3, k4, k5, k6⟩ := has_seven hh3
    have HW3 := Lib.hid hw3
    clear hw3 hb23 HS2 HB2 hh3 hs3 hok
    rcases hd2 with ⟨h1, rfl⟩ | ⟨_, rfl, rfl⟩
    · obtain ⟨hmy, hen⟩ := pd_dec_only h1
      rw [hen, if_pos hmy] at HE3
      unfold EncPost at HE3
      unfold pdV pdA at HE3
      clear h1 hmy hen
      go_upto_region 5 with fail
      rw [HW3.out]
      clear HW3
      go_wp2_with fail
      refine HE3.out.mono ?_
      rintro e w4 ⟨A4, c4, rfl, ho4, hb4⟩
      have hcv := conv8 A4 c4 xs w4 (at8_own ho4.out)
      have HB4 := Lib.hid (HB3.out.trans (hb4.out.mono HB3.out.size))
      have hcx := conv8 A c xs w4 (at8_low8 (sl_at8 HS.out) HB4.out)
      have hse : ((str8 xs).toList == (str8 xs).toList) = true := by simp
      generalize str8 xs = S at *
      clear ho4 hb4 HE3 k0 k1 k2 k3 k4 k5 k6 HB3
      go_wp2
      go_ret
      exact ⟨by simp, HB4.out⟩
    · clear HE3
      have e0 : (pdZero.kind == 0) = true := rfl
      have e1 : ((pdZero.body.length : Nat) : Int) = 0 := rfl
      go_upto_region 5 with fail
      rw [HW3.out]
      clear HW3
      go_wp2
      go_ret
      exact ⟨rfl, HB3.out⟩
  · have x1 : (2000 : Int) < (xs.length : Int) := by omega
    go_wp2
    go_ret
    exact ⟨rfl, HB1.out⟩
end Go.Proofs.Ytojbinpicoeppaa
