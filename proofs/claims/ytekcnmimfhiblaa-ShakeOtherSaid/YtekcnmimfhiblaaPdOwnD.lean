/-
  package pdu as landed: Decode.
-/
import Derived.Test.YtekcnmimfhiblaaPdRead
namespace Go.Proofs.Ytekcnmimfhiblaa
open Go.RowKit
open Go.Great

theorem seq_fine {l : List Nat} (h8 : bytes8 l) : (seqRun l).1.ok ∧ (seqRun l).1.body.length ≤ l.length := by
  unfold seqRun
  have h81 := aft9_8 h8 1
  have h82 := aft9_8 h81 3
  have hl2 : (aft9 (aft9 l 1) 3).length ≤ l.length := Nat.le_trans (aft9_len _ _) (aft9_len _ _)
  generalize val9 l 1 = f at *
  generalize val9 (aft9 l 1) 3 = t at *
  generalize (false || decide (l.length < 1) || decide ((aft9 l 1).length < 3)) = s at *
  generalize aft9 (aft9 l 1) 3 = r at *
  have p8 : (256 : Nat) ^ 8 = 18446744073709551616 := by decide
  have w4 : ∀ {l : List Nat}, bytes8 l → val9 l 4 < 4294967296 := fun h => by have := val9_lt h 4; rwa [pow256_4] at this
  have w8 : ∀ {l : List Nat}, bytes8 l → val9 l 8 < 18446744073709551616 := fun h => by have := val9_lt h 8; rwa [p8] at this
  have n8 : bytes8 [] := fun x hx => by cases hx
  have z4 : (0 : Nat) < 4294967296 := by decide
  have nxl : ∀ (x : List Nat) (m : Nat), (nx9 x m).length ≤ x.length := fun x m => by
    unfold nx9
    split
    · rw [List.length_take]; omega
    · exact Nat.zero_le _
  have h83 := aft9_8 h82 4
  have l3 := aft9_len r 4
  unfold seqKind
  split
  · exact ⟨⟨w4 h82, z4, n8, (show (0 : Nat) < 18446744073709551616 by decide)⟩, Nat.zero_le _⟩
  · split
    · exact ⟨⟨w4 h82, w4 h83, n8, w8 (aft9_8 h83 4)⟩, Nat.zero_le _⟩
    · split
      · have h84 := aft9_8 h83 2
        have l4 := aft9_len (aft9 r 4) 2
        have l5 := nxl (aft9 (aft9 r 4) 2) (val9 (aft9 r 4) 2)
        exact ⟨⟨z4, w4 h82, nx9_8 h84 _, w8 (aft9_8 h84 _)⟩, by show (nx9 _ _).length ≤ _; omega⟩
      · split
        · have l5 := nxl (aft9 r 4) 1
          exact ⟨⟨z4, w4 h82, nx9_8 h83 _, w8 (aft9_8 h83 _)⟩, by show (nx9 _ _).length ≤ _; omega⟩
        · exact ⟨⟨z4, z4, n8, w8 h82⟩, Nat.zero_le _⟩

set_option maxRecDepth 100000 in
set_option maxHeartbeats 4000000 in
theorem opd_decode (A : Option Addr) (c : Nat) (xs : List Nat) (w : World) (ha : At8 w A xs) (hb : bytes8 xs) (hn : xs.length ≤ 2000) (hcap : xs.length ≤ c) :
    Calls Try.prog 48 #[.slice A xs.length c] w (DecPostA A xs w) := by
  obtain ⟨w1, hw1⟩ : ∃ w1, w.alloc (.cells #[.int .i64 0, .int .i64 0, .int .i64 0, .int .u32 0, .int .u32 0, .slice none 0 0, .int .u64 0] 30) = w1 := ⟨_, rfl⟩
  have hb1 : Below w.heap.size w w1 := by rw [← hw1]; exact (Below.refl _ _).alloc (Nat.le_refl _) _
  have hs1 : w1.heap.size = w.heap.size + 1 := by rw [← hw1]; simp
  have hz1 : Has w1 w.heap.size 30 #[.int .i64 0, .int .i64 0, .int .i64 0, .int .u32 0, .int .u32 0, .slice none 0 0, .int .u64 0] := by rw [← hw1]; exact Has.made _ _ _
  obtain ⟨w2, hw2⟩ : ∃ w2, w1.alloc (.cells #[.slice A xs.length c, .bool false] 82) = w2 := ⟨_, rfl⟩
  have hb2 : Below w1.heap.size w1 w2 := by rw [← hw2]; exact (Below.refl _ _).alloc (Nat.le_refl _) _
  have hb12 : Below w.heap.size w w2 := hb1.trans (hb2.mono hb1.size)
  have hu2 : UnR w.heap.size w2 w1.heap.size xs false := ⟨A, c, by rw [← hw2]; exact Has.made _ _ _, at8_low8 ha hb12, hcap, fun hp a e => by
    obtain ⟨ad, e2, hc⟩ := ha hp
    rw [e2] at e
    injection e with e
    subst e
    have h0 := hc 0 (.int .u8 (xs.getD 0 0 : Nat)) (u8s_at xs hp)
    have := cell_block h0
    rwa [show ad.add 0 = ad from by unfold Addr.add; simp] at this⟩
  have hz2 := hz1.under hb2 hz1.lt
  have HP := Lib.hid (opd_pdu w.heap.size w1.heap.size xs w2 hu2 hb1.size hb hn)
  have hnone := seq_dec_none hb
  have hsome := seq_dec_some hb
  obtain ⟨hqo, hqb⟩ := seq_fine hb
  obtain ⟨x, hx⟩ : ∃ x, seqRun xs = x := ⟨_, rfl⟩
  rw [hx] at HP hnone hsome hqo hqb
  clear hx hu2 ha hcap
  obtain ⟨q, r, s⟩ := x
  simp only at hnone hsome hqo hqb
  unfold SqPost pdV pdA at HP
  simp only [hs1] at HP
  have HM := Lib.hid (fun A c W => opd_may q A c hqo (by omega) W)
  have HW1 := Lib.hid hw1; have HW2 := Lib.hid hw2; have HZ2 := Lib.hid hz2; have HB12 := Lib.hid hb12
  have hs2 : w.heap.size < w2.heap.size := by have := hb2.size; omega
  have hg : w.heap.size < w1.heap.size := by omega
  clear hw1 hw2 hz1 hz2 hb1 hb2 hb12 hqo
  go_enter Try.func48, Try.ntmps48
  go_upto_region 1 with fail
  rw [HW1.out]
  clear HW1
  go_upto_region 2 with fail
  rw [HW2.out]
  clear HW2
  go_wp2_with fail
  refine HP.out.mono ?_
  rintro e w3 ⟨A3, c3, rfl, ho3, hu3, hg3⟩
  obtain ⟨w4, hw4⟩ : ∃ w4, w3.alloc (.cells #[.int .i64 q.kind, .int .i64 q.dir, .int .i64 q.train, .int .u32 (q.a : Nat), .int .u32 (q.b : Nat), .slice A3 q.body.length c3, .int .u64 (q.mac : Nat)] 30) = w4 := ⟨_, rfl⟩
  have hb34 : Below w3.heap.size w3 w4 := by rw [← hw4]; exact (Below.refl _ _).alloc (Nat.le_refl _) _
  have hh4 : Has w4 w3.heap.size 30 #[.int .i64 q.kind, .int .i64 q.dir, .int .i64 q.train, .int .u32 (q.a : Nat), .int .u32 (q.b : Nat), .slice A3 q.body.length c3, .int .u64 (q.mac : Nat)] := by rw [← hw4]; exact Has.made _ _ _
  have hz4 := (HZ2.out.grow hg3.out (by simp only [ne_eq, Option.some.injEq]; omega)).under hb34 (by have := hg3.out.size; omega)
  have hb4 : Below w.heap.size w w4 := (HB12.out.grown hg3.out HB12.out.size (fun x hx => by cases hx; omega)).trans (hb34.mono (by have := hg3.out.size; omega))
  have ho4 := own_under ho3.out hb34 (Nat.le_refl _)
  obtain ⟨B, cB, hu4, _, _, _⟩ := hu3.out.under hb34
  have u0 := hu4.cell 0; have u1 := hu4.cell 1
  simp at u0 u1
  have HW4 := Lib.hid hw4
  obtain ⟨c0, c1, c2, c3', c4, c5, c6⟩ := has_seven hh4
  have HM4 := Lib.hid (HM.out A3 c3 w4)
  unfold pdV pdA at HM4
  clear hw4 HM HP hu3 ho3 hu4 HZ2 HB12
  go_upto_region 3 with fail
  rw [HW4.out]
  clear HW4
  rcases s with _ | _
  · rcases Nat.eq_zero_or_pos r.length with h0 | h0
    · have e0 : r = [] := List.eq_nil_of_length_eq_zero h0
      by_cases hm : pdMay q
      · have HD := Lib.hid (hsome rfl e0 hm)
        rw [decide_eq_true hm] at HM4
        subst e0
        clear hm hnone hsome h0
        go_wp2_with fail
        refine HM4.out.mono ?_
        rintro e w5 ⟨rfl, hb5⟩
        have hz5 := hz4.under hb5 hz4.lt
        have hB5 := hb4.trans (hb5.mono hb4.size)
        have ho5 := own_under ho4 hb5 (Nat.le_refl _)
        have hh5 := hh4.under hb5 hh4.lt
        clear c0 c1 c2 c3' c4 c5 c6 u0 u1 hz4 hb4 ho4 hh4 hb5 HM4
        obtain ⟨c0, c1, c2, c3', c4, c5, c6⟩ := has_seven hh5
        have HE : Hid (w5.heap[w.heap.size]? = some (.cells #[.int .i64 0, .int .i64 0, .int .i64 0, .int .u32 0, .int .u32 0, .slice none 0 0, .int .u64 0] 30 (0, 0))) := Lib.hid hz5
        have HR := Lib.hid (has_setRow7 HE.out #[.int .i64 q.kind, .int .i64 q.dir, .int .i64 q.train, .int .u32 (q.a : Nat), .int .u32 (q.b : Nat), .slice A3 q.body.length c3, .int .u64 (q.mac : Nat)])
        have HBF := Lib.hid (below_row (g := w.heap.size) hB5 (Nat.le_refl _) #[.int .i64 q.kind, .int .i64 q.dir, .int .i64 q.train, .int .u32 (q.a : Nat), .int .u32 (q.b : Nat), .slice A3 q.body.length c3, .int .u64 (q.mac : Nat)])
        have HOF := Lib.hid (own_row9 (g := w.heap.size) ho5 (by omega) #[.int .i64 q.kind, .int .i64 q.dir, .int .i64 q.train, .int .u32 (q.a : Nat), .int .u32 (q.b : Nat), .slice A3 q.body.length c3, .int .u64 (q.mac : Nat)])
        clear hz5 hB5 ho5
        go_wp2_with (with_reducible refine wpList_store_rowTo (o := ⟨none, _, _, _, _, _⟩) rfl 30 _ _ rfl rfl w.heap.size #[.int .i64 q.kind, .int .i64 q.dir, .int .i64 q.train, .int .u32 (q.a : Nat), .int .u32 (q.b : Nat), .slice A3 q.body.length c3, .int .u64 (q.mac : Nat)] rfl rfl 30 _ HE.out (by kernel_rfl) (by kernel_rfl) (by kernel_rfl) ?_)
        refine bodyPost_ret (results_row_tmp9 rfl _ _ w.heap.size 30 _ _ rfl HR.out Try.underlying30 rfl (by kernel_rfl)) rfl ?_
        exact ⟨q, A3, c3, 0, rfl, .inl ⟨HD.out, rfl⟩, Lib.hid (Sl.of_own HOF.out), Lib.hid (fun a e => .inl (by have := (HOF.out.lt a.block (by subst e; rfl)).1; omega)), HBF⟩
      · have HD := Lib.hid (hnone (fun h => hm h.2.2))
        rw [decide_eq_false hm] at HM4
        subst e0
        clear hm hnone hsome h0
        go_wp2_with fail
        refine HM4.out.mono ?_
        rintro e w5 ⟨rfl, hb5⟩
        have hz5 := hz4.under hb5 hz4.lt
        have hB5 := hb4.trans (hb5.mono hb4.size)
        have ho5 := own_under ho4 hb5 (Nat.le_refl _)
        clear c0 c1 c2 c3' c4 c5 c6 u0 u1 hz4 hb4 ho4 hh4 hb5 HM4
        have HE : Hid (w5.heap[w.heap.size]? = some (.cells #[.int .i64 0, .int .i64 0, .int .i64 0, .int .u32 0, .int .u32 0, .slice none 0 0, .int .u64 0] 30 (0, 0))) := Lib.hid hz5
        have HR := Lib.hid (has_setRow7 HE.out #[.int .i64 0, .int .i64 0, .int .i64 0, .int .u32 0, .int .u32 0, .slice none 0 0, .int .u64 0])
        have HBF := Lib.hid (below_row (g := w.heap.size) hB5 (Nat.le_refl _) #[.int .i64 0, .int .i64 0, .int .i64 0, .int .u32 0, .int .u32 0, .slice none 0 0, .int .u64 0])
        have HOF := Lib.hid (own_row9 (g := w.heap.size) ho5 (by omega) #[.int .i64 0, .int .i64 0, .int .i64 0, .int .u32 0, .int .u32 0, .slice none 0 0, .int .u64 0])
        clear hz5 hB5 ho5
        go_wp2_with (with_reducible refine wpList_store_rowTo (o := ⟨none, _, _, _, _, _⟩) rfl 30 _ _ rfl rfl w.heap.size #[.int .i64 0, .int .i64 0, .int .i64 0, .int .u32 0, .int .u32 0, .slice none 0 0, .int .u64 0] rfl rfl 30 _ HE.out (by kernel_rfl) (by kernel_rfl) (by kernel_rfl) ?_)
        refine bodyPost_ret (results_row_tmp9 rfl _ _ w.heap.size 30 _ _ rfl HR.out Try.underlying30 rfl (by kernel_rfl)) rfl ?_
        exact ⟨pdZero, none, 0, 8, rfl, .inr ⟨HD.out, rfl, rfl⟩, Lib.hid (sl_nil _ _), Lib.hid (fun a ha => by cases ha), HBF⟩
    · have HD := Lib.hid (hnone (fun h => by rw [h.2.1] at h0; exact absurd h0 (by decide)))
      have x1 : (0 : Int) < (r.length : Int) := by omega
      clear hnone hsome HM4
      have HE : Hid (w4.heap[w.heap.size]? = some (.cells #[.int .i64 0, .int .i64 0, .int .i64 0, .int .u32 0, .int .u32 0, .slice none 0 0, .int .u64 0] 30 (0, 0))) := Lib.hid hz4
      have HR := Lib.hid (has_setRow7 HE.out #[.int .i64 0, .int .i64 0, .int .i64 0, .int .u32 0, .int .u32 0, .slice none 0 0, .int .u64 0])
      have HBF := Lib.hid (below_row (g := w.heap.size) hb4 (Nat.le_refl _) #[.int .i64 0, .int .i64 0, .int .i64 0, .int .u32 0, .int .u32 0, .slice none 0 0, .int .u64 0])
      have HOF := Lib.hid (own_row9 (g := w.heap.size) ho4 (by omega) #[.int .i64 0, .int .i64 0, .int .i64 0, .int .u32 0, .int .u32 0, .slice none 0 0, .int .u64 0])
      clear hz4 hb4 ho4
      go_wp2_with (with_reducible refine wpList_store_rowTo (o := ⟨none, _, _, _, _, _⟩) rfl 30 _ _ rfl rfl w.heap.size #[.int .i64 0, .int .i64 0, .int .i64 0, .int .u32 0, .int .u32 0, .slice none 0 0, .int .u64 0] rfl rfl 30 _ HE.out (by kernel_rfl) (by kernel_rfl) (by kernel_rfl) ?_)
      refine bodyPost_ret (results_row_tmp9 rfl _ _ w.heap.size 30 _ _ rfl HR.out Try.underlying30 rfl (by kernel_rfl)) rfl ?_
      exact ⟨pdZero, none, 0, 8, rfl, .inr ⟨HD.out, rfl, rfl⟩, Lib.hid (sl_nil _ _), Lib.hid (fun a ha => by cases ha), HBF⟩
  · have HD := Lib.hid (hnone (fun h => by cases h.1))
    clear hnone hsome HM4
    have HE : Hid (w4.heap[w.heap.size]? = some (.cells #[.int .i64 0, .int .i64 0, .int .i64 0, .int .u32 0, .int .u32 0, .slice none 0 0, .int .u64 0] 30 (0, 0))) := Lib.hid hz4
    have HR := Lib.hid (has_setRow7 HE.out #[.int .i64 0, .int .i64 0, .int .i64 0, .int .u32 0, .int .u32 0, .slice none 0 0, .int .u64 0])
    have HBF := Lib.hid (below_row (g := w.heap.size) hb4 (Nat.le_refl _) #[.int .i64 0, .int .i64 0, .int .i64 0, .int .u32 0, .int .u32 0, .slice none 0 0, .int .u64 0])
    have HOF := Lib.hid (own_row9 (g := w.heap.size) ho4 (by omega) #[.int .i64 0, .int .i64 0, .int .i64 0, .int .u32 0, .int .u32 0, .slice none 0 0, .int .u64 0])
    clear hz4 hb4 ho4
    go_wp2_with (with_reducible refine wpList_store_rowTo (o := ⟨none, _, _, _, _, _⟩) rfl 30 _ _ rfl rfl w.heap.size #[.int .i64 0, .int .i64 0, .int .i64 0, .int .u32 0, .int .u32 0, .slice none 0 0, .int .u64 0] rfl rfl 30 _ HE.out (by kernel_rfl) (by kernel_rfl) (by kernel_rfl) ?_)
    refine bodyPost_ret (results_row_tmp9 rfl _ _ w.heap.size 30 _ _ rfl HR.out Try.underlying30 rfl (by kernel_rfl)) rfl ?_
    exact ⟨pdZero, none, 0, 8, rfl, .inr ⟨HD.out, rfl, rfl⟩, Lib.hid (sl_nil _ _), Lib.hid (fun a ha => by cases ha), HBF⟩
end Go.Proofs.Ytekcnmimfhiblaa
