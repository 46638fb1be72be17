/-
  package pdu as landed: the fields of a PDU, read one after the other.
-/
import Derived.Test.YtekcnmimfhiblaaPdSeq
import Derived.Test.YtekcnmimfhiblaaPdOwnS
namespace Go.Proofs.Ytekcnmimfhiblaa
open Go.RowKit
open Go.Great

/-- What is known while the fields are read: the unread bytes at g, the PDU so far at h, the result's zero, the body's memory. -/
structure PdSt (lo : Nat) (w : World) (g h : Nat) (W : World) (cs : Array Value) (A : Option Addr) (c : Nat) (body : List Nat) (l : List Nat) (s : Bool) : Prop where
  un : UnR lo W g l s
  zero : Has W w.heap.size 30 #[.int .i64 0, .int .i64 0, .int .i64 0, .int .u32 0, .int .u32 0, .slice none 0 0, .int .u64 0]
  box : Has W h 30 cs
  own : W.ownsRow (h + 1) 5 1 (.slice A body.length c) body.length (u8s body)
  grown : w.grownBy W (some g)
  lt : g < w.heap.size ∧ lo ≤ g ∧ w.heap.size < h
section
variable {lo g h c : Nat} {w W W' : World} {cs : Array Value} {A : Option Addr} {body l l' : List Nat} {s s' : Bool}
theorem PdSt.read (S : PdSt lo w g h W cs A c body l s) (hu : UnR lo W' g l' s') (hg : W.grownBy W' (some g)) : PdSt lo w g h W' cs A c body l' s' :=
  ⟨hu, S.zero.grow hg (by have := S.lt.1; simp only [ne_eq, Option.some.injEq]; omega), S.box.grow hg (by have := S.lt; simp only [ne_eq, Option.some.injEq]; omega),
    own_keep S.own hg (fun e => by have := (S.own.lt g e).1; have := S.lt; omega), only_trans S.grown hg, S.lt⟩
theorem PdSt.put (S : PdSt lo w g h W cs A c body l s) (i : Nat) (v : Value) : PdSt lo w g h (W.setCell ⟨h, i, none⟩ v) (cs.setIfInBounds i v) A c body l s :=
  ⟨S.un.grow (only_store (only_refl W (some h)) (p := ⟨h, i, none⟩) rfl v) (by have := S.lt; omega) (by have := S.lt; omega), S.zero.apart (p := ⟨h, i, none⟩) (by show w.heap.size ≠ h; have := S.lt; omega) v, S.box.stored i v,
    ownsRow_setCell_below S.own (a := ⟨h, i, none⟩) (by show h < h + 1; omega) v,
    ⟨S.grown.os, S.grown.tape, S.grown.output, by have := S.grown.size; simpa [World.setCell] using this, fun k hk hne => by rw [Below.heap_setCell W ⟨h, i, none⟩ v k (by show k ≠ h; have := S.lt; omega)]; exact S.grown.block k hk hne⟩, S.lt⟩
theorem PdSt.clone {A' : Option Addr} {c' : Nat} {body' : List Nat} (S : PdSt lo w g h W cs A c body l s) (hb : Below W.heap.size W W') (ho : W'.ownsRow W.heap.size 5 1 (.slice A' body'.length c') body'.length (u8s body')) : PdSt lo w g h W' cs A' c' body' l s :=
  ⟨S.un.under hb, S.zero.under hb S.zero.lt, S.box.under hb S.box.lt, own_lower ho S.box.lt, only_trans S.grown (only_below hb (Nat.le_refl _) _), S.lt⟩
theorem PdSt.out (S : PdSt lo w g h W cs A c body l s) (cs' : Array Value) : Hid ((W.setRow w.heap.size cs').ownsRow w.heap.size 5 1 (.slice A body.length c) body.length (u8s body)) ∧ Hid (UnR lo (W.setRow w.heap.size cs') g l s) ∧ Hid (w.grownBy (W.setRow w.heap.size cs') (some g)) :=
  ⟨Lib.hid (own_lower (own_row9 S.own (by have := S.lt; omega) cs') (by have := S.lt; omega)), Lib.hid (S.un.grow (only_row W w.heap.size cs') (by have := S.lt; omega) (by have := S.lt; omega)),
    Lib.hid ⟨S.grown.os, S.grown.tape, S.grown.output, by have := S.grown.size; simpa using this, fun k hk hne => by rw [setRow_other W w.heap.size k cs' (by omega)]; exact S.grown.block k hk hne⟩⟩
end
/-- What reading the fields gives. -/
def SqPost (x : Pdu × List Nat × Bool) (lo g : Nat) (w : World) (e : Ending) (w' : World) : Prop :=
  ∃ A' c', e = .returned (pdV x.1 A' c') ∧ Hid (w'.ownsRow w.heap.size 5 1 (.slice A' x.1.body.length c') x.1.body.length (u8s x.1.body)) ∧ Hid (UnR lo w' g x.2.1 x.2.2) ∧ Hid (w.grownBy w' (some g))

set_option maxRecDepth 100000 in
set_option maxHeartbeats 4000000 in
theorem opd_pdu (lo g : Nat) (l : List Nat) (w : World) (h : UnR lo w g l false) (hlo : lo ≤ g) (h8 : bytes8 l) (hl : l.length ≤ 2000) :
    Calls Try.prog 61 #[.pointer (some ⟨g, 0, none⟩)] w (SqPost (seqRun l) lo g w) := by
  have hgw := h.lt
  obtain ⟨w1, hw1⟩ : ∃ w1, w.alloc (.cells #[.int .i64 0, .int .i64 0, .int .i64 0, .int .u32 0, .int .u32 0, .slice none 0 0, .int .u64 0] 30) = w1 := ⟨_, rfl⟩
  have hb1 : Below w.heap.size w w1 := by rw [← hw1]; exact (Below.refl _ _).alloc (Nat.le_refl _) _
  have hz1 : Has w1 w.heap.size 30 #[.int .i64 0, .int .i64 0, .int .i64 0, .int .u32 0, .int .u32 0, .slice none 0 0, .int .u64 0] := by rw [← hw1]; exact Has.made _ _ _
  have h81 := aft9_8 h8 1
  have h82 := aft9_8 h81 3
  have HN1 := Lib.hid (opd_number lo g 1 1 rfl l false w1 (h.under hb1) hlo (by decide) h8)
  have hf := val9_lt h8 1
  have ht := val9_lt h81 3
  rw [Nat.pow_one] at hf
  rw [show (256 : Nat) ^ 3 = 16777216 by decide] at ht
  have HN2 := Lib.hid (fun W s hu => opd_number lo g 3 3 rfl (aft9 l 1) s W hu hlo (by decide) h81)
  unfold seqRun
  have hr : (aft9 (aft9 l 1) 3).length ≤ 2000 := Nat.le_trans (aft9_len _ _) (Nat.le_trans (aft9_len _ _) hl)
  generalize val9 l 1 = f at *
  generalize val9 (aft9 l 1) 3 = t at *
  generalize aft9 (aft9 l 1) 3 = r at *
  generalize (false || decide (l.length < 1)) = s1 at *
  obtain ⟨s2, hs2⟩ : ∃ s2, (s1 || decide ((aft9 l 1).length < 3)) = s2 := ⟨_, rfl⟩
  rw [hs2]
  have HSE := Lib.hid hs2
  have HZ1 := Lib.hid hz1; have HW1 := Lib.hid hw1; have HG1 := Lib.hid (only_below hb1 (Nat.le_refl _) (some g))
  clear hb1 hz1 hw1 hl hs2 h
  go_enter Try.func61, Try.ntmps61
  go_upto_region 1 with fail
  rw [HW1.out]
  clear HW1
  go_wp2_with fail
  refine HN1.out.mono ?_
  rintro e w2 ⟨rfl, hu2, hg2⟩
  go_wp2_with fail
  refine (HN2.out _ _ hu2.out).mono ?_
  rintro e w3 ⟨rfl, hu3, hg3⟩
  have HZ3 := Lib.hid ((HZ1.out.grow hg2.out (by simp only [ne_eq, Option.some.injEq]; omega)).grow hg3.out (by simp only [ne_eq, Option.some.injEq]; omega))
  have HG3 := Lib.hid (only_trans (only_trans HG1.out hg2.out) hg3.out)
  have HU3 : Hid (UnR lo w3 g r s2) := Lib.hid (HSE.out ▸ hu3.out)
  clear HSE hu2 hg2 hu3 hg3 HZ1 HG1 HN1 HN2
  obtain ⟨w4, hw4⟩ : ∃ w4, w3.alloc (.cells #[.int .i64 ((f : Int) / 2), .int .i64 ((f : Int) % 2), .int .i64 (t : Nat), .int .u32 0, .int .u32 0, .slice none 0 0, .int .u64 0] 30) = w4 := ⟨_, rfl⟩
  have HS4 : Hid (PdSt lo w g w3.heap.size w4 #[.int .i64 ((f : Int) / 2), .int .i64 ((f : Int) % 2), .int .i64 (t : Nat), .int .u32 0, .int .u32 0, .slice none 0 0, .int .u64 0] none 0 [] r s2) := Lib.hid (by
    have hb4 : Below w3.heap.size w3 w4 := by rw [← hw4]; exact (Below.refl _ _).alloc (Nat.le_refl _) _
    exact ⟨HU3.out.under hb4, HZ3.out.under hb4 HZ3.out.lt, by rw [← hw4]; exact Has.made _ _ _, World.ownsRow_nil _ _ _ _, only_trans HG3.out (only_below hb4 (Nat.le_refl _) _), hgw, hlo, HZ3.out.lt⟩)
  have HW4 := Lib.hid hw4
  clear hw4 HU3 HZ3 HG3
  go_upto_region 3 with fail
  rw [HW4.out]
  clear HW4
  have hk2 : ((f / 2 : Nat) : Int) = (f : Int) / 2 := by omega
  have hd2 : ((f % 2 : Nat) : Int) = (f : Int) % 2 := by omega
  have hkind : f / 2 = 1 ∨ f / 2 = 2 ∨ f / 2 = 3 ∨ f / 2 = 5 ∨ f / 2 = 6 ∨ (f / 2 ≠ 1 ∧ f / 2 ≠ 2 ∧ f / 2 ≠ 3 ∧ f / 2 ≠ 5 ∧ f / 2 ≠ 6) := by omega
  have g83 := aft9_8 h82 4
  rcases hkind with hk1 | hkk | hkk | hkk | hkk | hkk
  · have HQ : Hid (seqKind f t r s2 = (⟨(f : Int) / 2, (f : Int) % 2, (t : Nat), val9 r 4, 0, [], 0⟩, aft9 r 4, s2 || decide (r.length < 4))) := Lib.hid (by unfold seqKind; rw [if_pos hk1, hk2, hd2])
    have HH := Lib.hid (fun W => opd_has ((f : Int) / 2) W)
    rw [decide_eq_false (by omega)] at HH
    have x1 : ((f : Int) / 2 == 1) = true := by rw [beq_iff_eq]; omega
    clear hk2 hd2 hk1
    obtain ⟨c0, c1, c2, c3, c4, c5, c6⟩ := has_seven HS4.out.box
    obtain ⟨f0, f1, f2, f3, f4, f5, f6⟩ := thaw_seven HS4.out.box
    go_wp2_with fail
    refine (opd_word lo g _ _ _ HS4.out.un hlo h82).mono ?_
    rintro e w5 ⟨rfl, hu, hg⟩
    have HS5 := Lib.hid (HS4.out.read hu.out hg.out)
    clear c0 c1 c2 c3 c4 c5 c6 f0 f1 f2 f3 f4 f5 f6
    clear hu hg HS4
    have h85 := aft9_8 h82 4
    obtain ⟨c0, c1, c2, c3, c4, c5, c6⟩ := has_seven HS5.out.box
    obtain ⟨f0, f1, f2, f3, f4, f5, f6⟩ := thaw_seven HS5.out.box
    obtain ⟨w6, hw6⟩ : ∃ W, w5.setCell ⟨w3.heap.size, 3, none⟩ (.int .u32 (val9 r 4 : Nat)) = W := ⟨_, rfl⟩
    have HS6 : Hid (PdSt lo w g w3.heap.size w6 #[.int .i64 ((f : Int) / 2), .int .i64 ((f : Int) % 2), .int .i64 (t : Nat), .int .u32 (val9 r 4 : Nat), .int .u32 0, .slice none 0 0, .int .u64 0] none 0 [] (aft9 r 4) (s2 || decide (r.length < 4))) := Lib.hid (by rw [← hw6]; exact HS5.out.put 3 (.int .u32 (val9 r 4 : Nat)))
    have HW6 := Lib.hid hw6
    clear hw6 HS5
    go_upto_region 15 with fail
    rw [HW6.out]
    clear HW6
    clear c0 c1 c2 c3 c4 c5 c6 f0 f1 f2 f3 f4 f5 f6
    obtain ⟨c0, c1, c2, c3, c4, c5, c6⟩ := has_seven HS6.out.box
    obtain ⟨f0, f1, f2, f3, f4, f5, f6⟩ := thaw_seven HS6.out.box
    go_wp2_with fail
    refine (HH.out _).mono ?_
    rintro e w9 ⟨rfl, rfl⟩
    go_upto_region 17 with fail
    clear c0 c1 c2 c3 c4 c5 c6 f0 f1 f2 f3 f4 f5 f6
    obtain ⟨c0, c1, c2, c3, c4, c5, c6⟩ := has_seven HS6.out.box
    obtain ⟨f0, f1, f2, f3, f4, f5, f6⟩ := thaw_seven HS6.out.box
    have HE : Hid (w9.heap[w.heap.size]? = some (.cells #[.int .i64 0, .int .i64 0, .int .i64 0, .int .u32 0, .int .u32 0, .slice none 0 0, .int .u64 0] 30 (0, 0))) := Lib.hid HS6.out.zero
    have HR := Lib.hid (has_setRow7 HE.out #[.int .i64 ((f : Int) / 2), .int .i64 ((f : Int) % 2), .int .i64 (t : Nat), .int .u32 (val9 r 4 : Nat), .int .u32 0, .slice none 0 0, .int .u64 0])
    have HO := Lib.hid (HS6.out.out #[.int .i64 ((f : Int) / 2), .int .i64 ((f : Int) % 2), .int .i64 (t : Nat), .int .u32 (val9 r 4 : Nat), .int .u32 0, .slice none 0 0, .int .u64 0])
    go_wp2_with (with_reducible refine wpList_store_rowTo (o := ⟨none, _, _, _, _, _⟩) rfl 30 _ _ rfl rfl w.heap.size #[.int .i64 ((f : Int) / 2), .int .i64 ((f : Int) % 2), .int .i64 (t : Nat), .int .u32 (val9 r 4 : Nat), .int .u32 0, .slice none 0 0, .int .u64 0] rfl rfl 30 _ HE.out (by kernel_rfl) (by kernel_rfl) (by kernel_rfl) ?_)
    refine bodyPost_ret (results_cell_row rfl _ _ w.heap.size 30 _ _ _ rfl HR.out Try.underlying30 rfl (by kernel_rfl)) rfl ?_
    rw [HQ.out]
    exact ⟨none, 0, rfl, HO.out⟩
  · have HQ : Hid (seqKind f t r s2 = seqTail ⟨(f : Int) / 2, (f : Int) % 2, (t : Nat), val9 r 4, val9 (aft9 r 4) 4, [], 0⟩ (aft9 (aft9 r 4) 4) (s2 || decide (r.length < 4) || decide ((aft9 r 4).length < 4))) := Lib.hid (by unfold seqKind; rw [if_neg (by omega), if_pos (by omega), hk2, hd2])
    have HH := Lib.hid (fun W => opd_has ((f : Int) / 2) W)
    rw [decide_eq_true (by omega)] at HH
    have x1 : ((f : Int) / 2 == 1) = false := by rw [beq_eq_false_iff_ne]; omega
    have x2 : ((f : Int) / 2 == 2) = true := by rw [beq_iff_eq]; omega
    clear hk2 hd2 hkk
    obtain ⟨c0, c1, c2, c3, c4, c5, c6⟩ := has_seven HS4.out.box
    obtain ⟨f0, f1, f2, f3, f4, f5, f6⟩ := thaw_seven HS4.out.box
    go_wp2_with fail
    refine (opd_word lo g _ _ _ HS4.out.un hlo h82).mono ?_
    rintro e w5 ⟨rfl, hu, hg⟩
    have HS5 := Lib.hid (HS4.out.read hu.out hg.out)
    clear c0 c1 c2 c3 c4 c5 c6 f0 f1 f2 f3 f4 f5 f6
    clear hu hg HS4
    have h85 := aft9_8 h82 4
    obtain ⟨c0, c1, c2, c3, c4, c5, c6⟩ := has_seven HS5.out.box
    obtain ⟨f0, f1, f2, f3, f4, f5, f6⟩ := thaw_seven HS5.out.box
    go_wp2_with fail
    refine (opd_word lo g _ _ _ HS5.out.un hlo h85).mono ?_
    rintro e w6 ⟨rfl, hu, hg⟩
    have HS6 := Lib.hid (HS5.out.read hu.out hg.out)
    clear c0 c1 c2 c3 c4 c5 c6 f0 f1 f2 f3 f4 f5 f6
    clear hu hg HS5
    have h86 := aft9_8 h85 4
    obtain ⟨c0, c1, c2, c3, c4, c5, c6⟩ := has_seven HS6.out.box
    obtain ⟨f0, f1, f2, f3, f4, f5, f6⟩ := thaw_seven HS6.out.box
    obtain ⟨w7, hw7⟩ : ∃ W, (w6.setCell ⟨w3.heap.size, 3, none⟩ (.int .u32 (val9 r 4 : Nat))).setCell ⟨w3.heap.size, 4, none⟩ (.int .u32 (val9 (aft9 r 4) 4 : Nat)) = W := ⟨_, rfl⟩
    have HS7 : Hid (PdSt lo w g w3.heap.size w7 #[.int .i64 ((f : Int) / 2), .int .i64 ((f : Int) % 2), .int .i64 (t : Nat), .int .u32 (val9 r 4 : Nat), .int .u32 (val9 (aft9 r 4) 4 : Nat), .slice none 0 0, .int .u64 0] none 0 [] (aft9 (aft9 r 4) 4) ((s2 || decide (r.length < 4)) || decide ((aft9 r 4).length < 4))) := Lib.hid (by rw [← hw7]; exact (HS6.out.put 3 (.int .u32 (val9 r 4 : Nat))).put 4 (.int .u32 (val9 (aft9 r 4) 4 : Nat)))
    have HW7 := Lib.hid hw7
    clear hw7 HS6
    go_upto_region 15 with fail
    rw [HW7.out]
    clear HW7
    clear c0 c1 c2 c3 c4 c5 c6 f0 f1 f2 f3 f4 f5 f6
    obtain ⟨c0, c1, c2, c3, c4, c5, c6⟩ := has_seven HS7.out.box
    obtain ⟨f0, f1, f2, f3, f4, f5, f6⟩ := thaw_seven HS7.out.box
    go_wp2_with fail
    refine (HH.out _).mono ?_
    rintro e w20 ⟨rfl, rfl⟩
    go_wp2_with fail
    refine (opd_number lo g 8 8 rfl _ _ _ HS7.out.un hlo (by decide) h86).mono ?_
    rintro e w8 ⟨rfl, hu, hg⟩
    have HS8 := Lib.hid (HS7.out.read hu.out hg.out)
    clear c0 c1 c2 c3 c4 c5 c6 f0 f1 f2 f3 f4 f5 f6
    clear hu hg HS7
    have h88 := aft9_8 h86 8
    obtain ⟨c0, c1, c2, c3, c4, c5, c6⟩ := has_seven HS8.out.box
    obtain ⟨f0, f1, f2, f3, f4, f5, f6⟩ := thaw_seven HS8.out.box
    obtain ⟨w9, hw9⟩ : ∃ W, w8.setCell ⟨w3.heap.size, 6, none⟩ (.int .u64 (val9 (aft9 (aft9 r 4) 4) 8 : Nat)) = W := ⟨_, rfl⟩
    have HS9 : Hid (PdSt lo w g w3.heap.size w9 #[.int .i64 ((f : Int) / 2), .int .i64 ((f : Int) % 2), .int .i64 (t : Nat), .int .u32 (val9 r 4 : Nat), .int .u32 (val9 (aft9 r 4) 4 : Nat), .slice none 0 0, .int .u64 (val9 (aft9 (aft9 r 4) 4) 8 : Nat)] none 0 [] (aft9 (aft9 (aft9 r 4) 4) 8) (((s2 || decide (r.length < 4)) || decide ((aft9 r 4).length < 4)) || decide ((aft9 (aft9 r 4) 4).length < 8))) := Lib.hid (by rw [← hw9]; exact HS8.out.put 6 (.int .u64 (val9 (aft9 (aft9 r 4) 4) 8 : Nat)))
    have HW9 := Lib.hid hw9
    clear hw9 HS8
    go_upto_region 17 with fail
    rw [HW9.out]
    clear HW9
    clear c0 c1 c2 c3 c4 c5 c6 f0 f1 f2 f3 f4 f5 f6
    obtain ⟨c0, c1, c2, c3, c4, c5, c6⟩ := has_seven HS9.out.box
    obtain ⟨f0, f1, f2, f3, f4, f5, f6⟩ := thaw_seven HS9.out.box
    have HE : Hid (w9.heap[w.heap.size]? = some (.cells #[.int .i64 0, .int .i64 0, .int .i64 0, .int .u32 0, .int .u32 0, .slice none 0 0, .int .u64 0] 30 (0, 0))) := Lib.hid HS9.out.zero
    have HR := Lib.hid (has_setRow7 HE.out #[.int .i64 ((f : Int) / 2), .int .i64 ((f : Int) % 2), .int .i64 (t : Nat), .int .u32 (val9 r 4 : Nat), .int .u32 (val9 (aft9 r 4) 4 : Nat), .slice none 0 0, .int .u64 (val9 (aft9 (aft9 r 4) 4) 8 : Nat)])
    have HO := Lib.hid (HS9.out.out #[.int .i64 ((f : Int) / 2), .int .i64 ((f : Int) % 2), .int .i64 (t : Nat), .int .u32 (val9 r 4 : Nat), .int .u32 (val9 (aft9 r 4) 4 : Nat), .slice none 0 0, .int .u64 (val9 (aft9 (aft9 r 4) 4) 8 : Nat)])
    go_wp2_with (with_reducible refine wpList_store_rowTo (o := ⟨none, _, _, _, _, _⟩) rfl 30 _ _ rfl rfl w.heap.size #[.int .i64 ((f : Int) / 2), .int .i64 ((f : Int) % 2), .int .i64 (t : Nat), .int .u32 (val9 r 4 : Nat), .int .u32 (val9 (aft9 r 4) 4 : Nat), .slice none 0 0, .int .u64 (val9 (aft9 (aft9 r 4) 4) 8 : Nat)] rfl rfl 30 _ HE.out (by kernel_rfl) (by kernel_rfl) (by kernel_rfl) ?_)
    refine bodyPost_ret (results_cell_row rfl _ _ w.heap.size 30 _ _ _ rfl HR.out Try.underlying30 rfl (by kernel_rfl)) rfl ?_
    rw [HQ.out]
    exact ⟨none, 0, rfl, HO.out⟩
  · have HQ : Hid (seqKind f t r s2 = seqTail ⟨(f : Int) / 2, (f : Int) % 2, (t : Nat), val9 r 4, val9 (aft9 r 4) 4, [], 0⟩ (aft9 (aft9 r 4) 4) (s2 || decide (r.length < 4) || decide ((aft9 r 4).length < 4))) := Lib.hid (by unfold seqKind; rw [if_neg (by omega), if_pos (by omega), hk2, hd2])
    have HH := Lib.hid (fun W => opd_has ((f : Int) / 2) W)
    rw [decide_eq_true (by omega)] at HH
    have x1 : ((f : Int) / 2 == 1) = false := by rw [beq_eq_false_iff_ne]; omega
    have x2 : ((f : Int) / 2 == 2) = false := by rw [beq_eq_false_iff_ne]; omega
    have x3 : ((f : Int) / 2 == 3) = true := by rw [beq_iff_eq]; omega
    clear hk2 hd2 hkk
    obtain ⟨c0, c1, c2, c3, c4, c5, c6⟩ := has_seven HS4.out.box
    obtain ⟨f0, f1, f2, f3, f4, f5, f6⟩ := thaw_seven HS4.out.box
    go_wp2_with fail
    refine (opd_word lo g _ _ _ HS4.out.un hlo h82).mono ?_
    rintro e w5 ⟨rfl, hu, hg⟩
    have HS5 := Lib.hid (HS4.out.read hu.out hg.out)
    clear c0 c1 c2 c3 c4 c5 c6 f0 f1 f2 f3 f4 f5 f6
    clear hu hg HS4
    have h85 := aft9_8 h82 4
    obtain ⟨c0, c1, c2, c3, c4, c5, c6⟩ := has_seven HS5.out.box
    obtain ⟨f0, f1, f2, f3, f4, f5, f6⟩ := thaw_seven HS5.out.box
    go_wp2_with fail
    refine (opd_word lo g _ _ _ HS5.out.un hlo h85).mono ?_
    rintro e w6 ⟨rfl, hu, hg⟩
    have HS6 := Lib.hid (HS5.out.read hu.out hg.out)
    clear c0 c1 c2 c3 c4 c5 c6 f0 f1 f2 f3 f4 f5 f6
    clear hu hg HS5
    have h86 := aft9_8 h85 4
    obtain ⟨c0, c1, c2, c3, c4, c5, c6⟩ := has_seven HS6.out.box
    obtain ⟨f0, f1, f2, f3, f4, f5, f6⟩ := thaw_seven HS6.out.box
    obtain ⟨w7, hw7⟩ : ∃ W, (w6.setCell ⟨w3.heap.size, 3, none⟩ (.int .u32 (val9 r 4 : Nat))).setCell ⟨w3.heap.size, 4, none⟩ (.int .u32 (val9 (aft9 r 4) 4 : Nat)) = W := ⟨_, rfl⟩
    have HS7 : Hid (PdSt lo w g w3.heap.size w7 #[.int .i64 ((f : Int) / 2), .int .i64 ((f : Int) % 2), .int .i64 (t : Nat), .int .u32 (val9 r 4 : Nat), .int .u32 (val9 (aft9 r 4) 4 : Nat), .slice none 0 0, .int .u64 0] none 0 [] (aft9 (aft9 r 4) 4) ((s2 || decide (r.length < 4)) || decide ((aft9 r 4).length < 4))) := Lib.hid (by rw [← hw7]; exact (HS6.out.put 3 (.int .u32 (val9 r 4 : Nat))).put 4 (.int .u32 (val9 (aft9 r 4) 4 : Nat)))
    have HW7 := Lib.hid hw7
    clear hw7 HS6
    go_upto_region 15 with fail
    rw [HW7.out]
    clear HW7
    clear c0 c1 c2 c3 c4 c5 c6 f0 f1 f2 f3 f4 f5 f6
    obtain ⟨c0, c1, c2, c3, c4, c5, c6⟩ := has_seven HS7.out.box
    obtain ⟨f0, f1, f2, f3, f4, f5, f6⟩ := thaw_seven HS7.out.box
    go_wp2_with fail
    refine (HH.out _).mono ?_
    rintro e w20 ⟨rfl, rfl⟩
    go_wp2_with fail
    refine (opd_number lo g 8 8 rfl _ _ _ HS7.out.un hlo (by decide) h86).mono ?_
    rintro e w8 ⟨rfl, hu, hg⟩
    have HS8 := Lib.hid (HS7.out.read hu.out hg.out)
    clear c0 c1 c2 c3 c4 c5 c6 f0 f1 f2 f3 f4 f5 f6
    clear hu hg HS7
    have h88 := aft9_8 h86 8
    obtain ⟨c0, c1, c2, c3, c4, c5, c6⟩ := has_seven HS8.out.box
    obtain ⟨f0, f1, f2, f3, f4, f5, f6⟩ := thaw_seven HS8.out.box
    obtain ⟨w9, hw9⟩ : ∃ W, w8.setCell ⟨w3.heap.size, 6, none⟩ (.int .u64 (val9 (aft9 (aft9 r 4) 4) 8 : Nat)) = W := ⟨_, rfl⟩
    have HS9 : Hid (PdSt lo w g w3.heap.size w9 #[.int .i64 ((f : Int) / 2), .int .i64 ((f : Int) % 2), .int .i64 (t : Nat), .int .u32 (val9 r 4 : Nat), .int .u32 (val9 (aft9 r 4) 4 : Nat), .slice none 0 0, .int .u64 (val9 (aft9 (aft9 r 4) 4) 8 : Nat)] none 0 [] (aft9 (aft9 (aft9 r 4) 4) 8) (((s2 || decide (r.length < 4)) || decide ((aft9 r 4).length < 4)) || decide ((aft9 (aft9 r 4) 4).length < 8))) := Lib.hid (by rw [← hw9]; exact HS8.out.put 6 (.int .u64 (val9 (aft9 (aft9 r 4) 4) 8 : Nat)))
    have HW9 := Lib.hid hw9
    clear hw9 HS8
    go_upto_region 17 with fail
    rw [HW9.out]
    clear HW9
    clear c0 c1 c2 c3 c4 c5 c6 f0 f1 f2 f3 f4 f5 f6
    obtain ⟨c0, c1, c2, c3, c4, c5, c6⟩ := has_seven HS9.out.box
    obtain ⟨f0, f1, f2, f3, f4, f5, f6⟩ := thaw_seven HS9.out.box
    have HE : Hid (w9.heap[w.heap.size]? = some (.cells #[.int .i64 0, .int .i64 0, .int .i64 0, .int .u32 0, .int .u32 0, .slice none 0 0, .int .u64 0] 30 (0, 0))) := Lib.hid HS9.out.zero
    have HR := Lib.hid (has_setRow7 HE.out #[.int .i64 ((f : Int) / 2), .int .i64 ((f : Int) % 2), .int .i64 (t : Nat), .int .u32 (val9 r 4 : Nat), .int .u32 (val9 (aft9 r 4) 4 : Nat), .slice none 0 0, .int .u64 (val9 (aft9 (aft9 r 4) 4) 8 : Nat)])
    have HO := Lib.hid (HS9.out.out #[.int .i64 ((f : Int) / 2), .int .i64 ((f : Int) % 2), .int .i64 (t : Nat), .int .u32 (val9 r 4 : Nat), .int .u32 (val9 (aft9 r 4) 4 : Nat), .slice none 0 0, .int .u64 (val9 (aft9 (aft9 r 4) 4) 8 : Nat)])
    go_wp2_with (with_reducible refine wpList_store_rowTo (o := ⟨none, _, _, _, _, _⟩) rfl 30 _ _ rfl rfl w.heap.size #[.int .i64 ((f : Int) / 2), .int .i64 ((f : Int) % 2), .int .i64 (t : Nat), .int .u32 (val9 r 4 : Nat), .int .u32 (val9 (aft9 r 4) 4 : Nat), .slice none 0 0, .int .u64 (val9 (aft9 (aft9 r 4) 4) 8 : Nat)] rfl rfl 30 _ HE.out (by kernel_rfl) (by kernel_rfl) (by kernel_rfl) ?_)
    refine bodyPost_ret (results_cell_row rfl _ _ w.heap.size 30 _ _ _ rfl HR.out Try.underlying30 rfl (by kernel_rfl)) rfl ?_
    rw [HQ.out]
    exact ⟨none, 0, rfl, HO.out⟩
  · have HQ : Hid (seqKind f t r s2 = seqTail ⟨(f : Int) / 2, (f : Int) % 2, (t : Nat), 0, val9 r 4, nx9 (aft9 (aft9 r 4) 2) (val9 (aft9 r 4) 2), 0⟩ (aft9 (aft9 (aft9 r 4) 2) (val9 (aft9 r 4) 2)) (s2 || decide (r.length < 4) || decide ((aft9 r 4).length < 2) || decide ((aft9 (aft9 r 4) 2).length < val9 (aft9 r 4) 2))) := Lib.hid (by unfold seqKind; rw [if_neg (by omega), if_neg (by omega), if_pos (by omega), hk2, hd2])
    have HH := Lib.hid (fun W => opd_has ((f : Int) / 2) W)
    rw [decide_eq_true (by omega)] at HH
    have x1 : ((f : Int) / 2 == 1) = false := by rw [beq_eq_false_iff_ne]; omega
    have x2 : ((f : Int) / 2 == 2) = false := by rw [beq_eq_false_iff_ne]; omega
    have x3 : ((f : Int) / 2 == 3) = false := by rw [beq_eq_false_iff_ne]; omega
    have x5 : ((f : Int) / 2 == 5) = true := by rw [beq_iff_eq]; omega
    clear hk2 hd2 hkk
    obtain ⟨c0, c1, c2, c3, c4, c5, c6⟩ := has_seven HS4.out.box
    obtain ⟨f0, f1, f2, f3, f4, f5, f6⟩ := thaw_seven HS4.out.box
    go_wp2_with fail
    refine (opd_word lo g _ _ _ HS4.out.un hlo h82).mono ?_
    rintro e w5 ⟨rfl, hu, hg⟩
    have HS5 := Lib.hid (HS4.out.read hu.out hg.out)
    clear c0 c1 c2 c3 c4 c5 c6 f0 f1 f2 f3 f4 f5 f6
    clear hu hg HS4
    have h85 := aft9_8 h82 4
    obtain ⟨c0, c1, c2, c3, c4, c5, c6⟩ := has_seven HS5.out.box
    obtain ⟨f0, f1, f2, f3, f4, f5, f6⟩ := thaw_seven HS5.out.box
    obtain ⟨w6, hw6⟩ : ∃ W, w5.setCell ⟨w3.heap.size, 4, none⟩ (.int .u32 (val9 r 4 : Nat)) = W := ⟨_, rfl⟩
    have HS6 : Hid (PdSt lo w g w3.heap.size w6 #[.int .i64 ((f : Int) / 2), .int .i64 ((f : Int) % 2), .int .i64 (t : Nat), .int .u32 0, .int .u32 (val9 r 4 : Nat), .slice none 0 0, .int .u64 0] none 0 [] (aft9 r 4) (s2 || decide (r.length < 4))) := Lib.hid (by rw [← hw6]; exact HS5.out.put 4 (.int .u32 (val9 r 4 : Nat)))
    have HW6 := Lib.hid hw6
    clear hw6 HS5
    go_upto_region 11 with fail
    rw [HW6.out]
    clear HW6
    clear c0 c1 c2 c3 c4 c5 c6 f0 f1 f2 f3 f4 f5 f6
    obtain ⟨c0, c1, c2, c3, c4, c5, c6⟩ := has_seven HS6.out.box
    obtain ⟨f0, f1, f2, f3, f4, f5, f6⟩ := thaw_seven HS6.out.box
    have hn2 := val9_lt h85 2
    rw [show (256 : Nat) ^ 2 = 65536 by decide] at hn2
    go_wp2_with fail
    refine (opd_number lo g 2 2 rfl _ _ _ HS6.out.un hlo (by decide) h85).mono ?_
    rintro e w7 ⟨rfl, hu, hg⟩
    have HS7 := Lib.hid (HS6.out.read hu.out hg.out)
    clear c0 c1 c2 c3 c4 c5 c6 f0 f1 f2 f3 f4 f5 f6
    clear hu hg HS6
    have h87 := aft9_8 h85 2
    obtain ⟨c0, c1, c2, c3, c4, c5, c6⟩ := has_seven HS7.out.box
    obtain ⟨f0, f1, f2, f3, f4, f5, f6⟩ := thaw_seven HS7.out.box
    go_wp2_with fail
    refine (opd_next lo g (val9 (aft9 r 4) 2) _ rfl _ _ _ HS7.out.un hlo).mono ?_
    rintro e w8 ⟨B, cB, rfl, hs, _, hu, hg⟩
    have HS8 := Lib.hid (HS7.out.read hu.out hg.out)
    have HB := hs
    clear c0 c1 c2 c3 c4 c5 c6 f0 f1 f2 f3 f4 f5 f6
    clear hu hg HS7
    have h88 := aft9_8 h87 (val9 (aft9 r 4) 2)
    obtain ⟨c0, c1, c2, c3, c4, c5, c6⟩ := has_seven HS8.out.box
    obtain ⟨f0, f1, f2, f3, f4, f5, f6⟩ := thaw_seven HS8.out.box
    go_wp2_with fail
    refine (oclone_any B (nx9 (aft9 (aft9 r 4) 2) (val9 (aft9 r 4) 2)).length cB (nx9 (aft9 (aft9 r 4) 2) (val9 (aft9 r 4) 2)) rfl _ HB.out (by have := nx9_len (aft9 (aft9 r 4) 2) (val9 (aft9 r 4) 2); omega)).mono ?_
    rintro e w9 ⟨A5, r5, rfl, ho, hb, _⟩
    have HS9 := Lib.hid (HS8.out.clone hb.out ho.out)
    clear c0 c1 c2 c3 c4 c5 c6 f0 f1 f2 f3 f4 f5 f6
    clear hs HB ho hb HS8
    obtain ⟨c0, c1, c2, c3, c4, c5, c6⟩ := has_seven HS9.out.box
    obtain ⟨f0, f1, f2, f3, f4, f5, f6⟩ := thaw_seven HS9.out.box
    obtain ⟨w10, hw10⟩ : ∃ W, w9.setCell ⟨w3.heap.size, 5, none⟩ (.slice A5 (nx9 (aft9 (aft9 r 4) 2) (val9 (aft9 r 4) 2)).length r5) = W := ⟨_, rfl⟩
    have HS10 : Hid (PdSt lo w g w3.heap.size w10 #[.int .i64 ((f : Int) / 2), .int .i64 ((f : Int) % 2), .int .i64 (t : Nat), .int .u32 0, .int .u32 (val9 r 4 : Nat), .slice A5 (nx9 (aft9 (aft9 r 4) 2) (val9 (aft9 r 4) 2)).length r5, .int .u64 0] A5 r5 (nx9 (aft9 (aft9 r 4) 2) (val9 (aft9 r 4) 2)) (aft9 (aft9 (aft9 r 4) 2) (val9 (aft9 r 4) 2)) (((s2 || decide (r.length < 4)) || decide ((aft9 r 4).length < 2)) || decide ((aft9 (aft9 r 4) 2).length < (val9 (aft9 r 4) 2)))) := Lib.hid (by rw [← hw10]; exact HS9.out.put 5 (.slice A5 (nx9 (aft9 (aft9 r 4) 2) (val9 (aft9 r 4) 2)).length r5))
    have HW10 := Lib.hid hw10
    clear hw10 HS9
    go_upto_region 15 with fail
    rw [HW10.out]
    clear HW10
    clear c0 c1 c2 c3 c4 c5 c6 f0 f1 f2 f3 f4 f5 f6
    obtain ⟨c0, c1, c2, c3, c4, c5, c6⟩ := has_seven HS10.out.box
    obtain ⟨f0, f1, f2, f3, f4, f5, f6⟩ := thaw_seven HS10.out.box
    go_wp2_with fail
    refine (HH.out _).mono ?_
    rintro e w20 ⟨rfl, rfl⟩
    go_wp2_with fail
    refine (opd_number lo g 8 8 rfl _ _ _ HS10.out.un hlo (by decide) h88).mono ?_
    rintro e w11 ⟨rfl, hu, hg⟩
    have HS11 := Lib.hid (HS10.out.read hu.out hg.out)
    clear c0 c1 c2 c3 c4 c5 c6 f0 f1 f2 f3 f4 f5 f6
    clear hu hg HS10
    have h811 := aft9_8 h88 8
    obtain ⟨c0, c1, c2, c3, c4, c5, c6⟩ := has_seven HS11.out.box
    obtain ⟨f0, f1, f2, f3, f4, f5, f6⟩ := thaw_seven HS11.out.box
    obtain ⟨w12, hw12⟩ : ∃ W, w11.setCell ⟨w3.heap.size, 6, none⟩ (.int .u64 (val9 (aft9 (aft9 (aft9 r 4) 2) (val9 (aft9 r 4) 2)) 8 : Nat)) = W := ⟨_, rfl⟩
    have HS12 : Hid (PdSt lo w g w3.heap.size w12 #[.int .i64 ((f : Int) / 2), .int .i64 ((f : Int) % 2), .int .i64 (t : Nat), .int .u32 0, .int .u32 (val9 r 4 : Nat), .slice A5 (nx9 (aft9 (aft9 r 4) 2) (val9 (aft9 r 4) 2)).length r5, .int .u64 (val9 (aft9 (aft9 (aft9 r 4) 2) (val9 (aft9 r 4) 2)) 8 : Nat)] A5 r5 (nx9 (aft9 (aft9 r 4) 2) (val9 (aft9 r 4) 2)) (aft9 (aft9 (aft9 (aft9 r 4) 2) (val9 (aft9 r 4) 2)) 8) ((((s2 || decide (r.length < 4)) || decide ((aft9 r 4).length < 2)) || decide ((aft9 (aft9 r 4) 2).length < (val9 (aft9 r 4) 2))) || decide ((aft9 (aft9 (aft9 r 4) 2) (val9 (aft9 r 4) 2)).length < 8))) := Lib.hid (by rw [← hw12]; exact HS11.out.put 6 (.int .u64 (val9 (aft9 (aft9 (aft9 r 4) 2) (val9 (aft9 r 4) 2)) 8 : Nat)))
    have HW12 := Lib.hid hw12
    clear hw12 HS11
    go_upto_region 17 with fail
    rw [HW12.out]
    clear HW12
    clear c0 c1 c2 c3 c4 c5 c6 f0 f1 f2 f3 f4 f5 f6
    obtain ⟨c0, c1, c2, c3, c4, c5, c6⟩ := has_seven HS12.out.box
    obtain ⟨f0, f1, f2, f3, f4, f5, f6⟩ := thaw_seven HS12.out.box
    have HE : Hid (w12.heap[w.heap.size]? = some (.cells #[.int .i64 0, .int .i64 0, .int .i64 0, .int .u32 0, .int .u32 0, .slice none 0 0, .int .u64 0] 30 (0, 0))) := Lib.hid HS12.out.zero
    have HR := Lib.hid (has_setRow7 HE.out #[.int .i64 ((f : Int) / 2), .int .i64 ((f : Int) % 2), .int .i64 (t : Nat), .int .u32 0, .int .u32 (val9 r 4 : Nat), .slice A5 (nx9 (aft9 (aft9 r 4) 2) (val9 (aft9 r 4) 2)).length r5, .int .u64 (val9 (aft9 (aft9 (aft9 r 4) 2) (val9 (aft9 r 4) 2)) 8 : Nat)])
    have HO := Lib.hid (HS12.out.out #[.int .i64 ((f : Int) / 2), .int .i64 ((f : Int) % 2), .int .i64 (t : Nat), .int .u32 0, .int .u32 (val9 r 4 : Nat), .slice A5 (nx9 (aft9 (aft9 r 4) 2) (val9 (aft9 r 4) 2)).length r5, .int .u64 (val9 (aft9 (aft9 (aft9 r 4) 2) (val9 (aft9 r 4) 2)) 8 : Nat)])
    go_wp2_with (with_reducible refine wpList_store_rowTo (o := ⟨none, _, _, _, _, _⟩) rfl 30 _ _ rfl rfl w.heap.size #[.int .i64 ((f : Int) / 2), .int .i64 ((f : Int) % 2), .int .i64 (t : Nat), .int .u32 0, .int .u32 (val9 r 4 : Nat), .slice A5 (nx9 (aft9 (aft9 r 4) 2) (val9 (aft9 r 4) 2)).length r5, .int .u64 (val9 (aft9 (aft9 (aft9 r 4) 2) (val9 (aft9 r 4) 2)) 8 : Nat)] rfl rfl 30 _ HE.out (by kernel_rfl) (by kernel_rfl) (by kernel_rfl) ?_)
    refine bodyPost_ret (results_cell_row rfl _ _ w.heap.size 30 _ _ _ rfl HR.out Try.underlying30 rfl (by kernel_rfl)) rfl ?_
    rw [HQ.out]
    exact ⟨A5, r5, rfl, HO.out⟩
  · have HQ : Hid (seqKind f t r s2 = seqTail ⟨(f : Int) / 2, (f : Int) % 2, (t : Nat), 0, val9 r 4, nx9 (aft9 r 4) 1, 0⟩ (aft9 (aft9 r 4) 1) (s2 || decide (r.length < 4) || decide ((aft9 r 4).length < 1))) := Lib.hid (by unfold seqKind; rw [if_neg (by omega), if_neg (by omega), if_neg (by omega), if_pos (by omega), hk2, hd2])
    have HH := Lib.hid (fun W => opd_has ((f : Int) / 2) W)
    rw [decide_eq_true (by omega)] at HH
    have x1 : ((f : Int) / 2 == 1) = false := by rw [beq_eq_false_iff_ne]; omega
    have x2 : ((f : Int) / 2 == 2) = false := by rw [beq_eq_false_iff_ne]; omega
    have x3 : ((f : Int) / 2 == 3) = false := by rw [beq_eq_false_iff_ne]; omega
    have x5 : ((f : Int) / 2 == 5) = false := by rw [beq_eq_false_iff_ne]; omega
    have x6 : ((f : Int) / 2 == 6) = true := by rw [beq_iff_eq]; omega
    clear hk2 hd2 hkk
    obtain ⟨c0, c1, c2, c3, c4, c5, c6⟩ := has_seven HS4.out.box
    obtain ⟨f0, f1, f2, f3, f4, f5, f6⟩ := thaw_seven HS4.out.box
    go_wp2_with fail
    refine (opd_word lo g _ _ _ HS4.out.un hlo h82).mono ?_
    rintro e w5 ⟨rfl, hu, hg⟩
    have HS5 := Lib.hid (HS4.out.read hu.out hg.out)
    clear c0 c1 c2 c3 c4 c5 c6 f0 f1 f2 f3 f4 f5 f6
    clear hu hg HS4
    have h85 := aft9_8 h82 4
    obtain ⟨c0, c1, c2, c3, c4, c5, c6⟩ := has_seven HS5.out.box
    obtain ⟨f0, f1, f2, f3, f4, f5, f6⟩ := thaw_seven HS5.out.box
    obtain ⟨w6, hw6⟩ : ∃ W, w5.setCell ⟨w3.heap.size, 4, none⟩ (.int .u32 (val9 r 4 : Nat)) = W := ⟨_, rfl⟩
    have HS6 : Hid (PdSt lo w g w3.heap.size w6 #[.int .i64 ((f : Int) / 2), .int .i64 ((f : Int) % 2), .int .i64 (t : Nat), .int .u32 0, .int .u32 (val9 r 4 : Nat), .slice none 0 0, .int .u64 0] none 0 [] (aft9 r 4) (s2 || decide (r.length < 4))) := Lib.hid (by rw [← hw6]; exact HS5.out.put 4 (.int .u32 (val9 r 4 : Nat)))
    have HW6 := Lib.hid hw6
    clear hw6 HS5
    go_upto_region 14 with fail
    rw [HW6.out]
    clear HW6
    clear c0 c1 c2 c3 c4 c5 c6 f0 f1 f2 f3 f4 f5 f6
    obtain ⟨c0, c1, c2, c3, c4, c5, c6⟩ := has_seven HS6.out.box
    obtain ⟨f0, f1, f2, f3, f4, f5, f6⟩ := thaw_seven HS6.out.box
    go_wp2_with fail
    refine (opd_next lo g 1 _ rfl _ _ _ HS6.out.un hlo).mono ?_
    rintro e w7 ⟨B, cB, rfl, hs, _, hu, hg⟩
    have HS7 := Lib.hid (HS6.out.read hu.out hg.out)
    have HB := hs
    clear c0 c1 c2 c3 c4 c5 c6 f0 f1 f2 f3 f4 f5 f6
    clear hu hg HS6
    have h87 := aft9_8 h85 1
    obtain ⟨c0, c1, c2, c3, c4, c5, c6⟩ := has_seven HS7.out.box
    obtain ⟨f0, f1, f2, f3, f4, f5, f6⟩ := thaw_seven HS7.out.box
    go_wp2_with fail
    refine (oclone_any B (nx9 (aft9 r 4) 1).length cB (nx9 (aft9 r 4) 1) rfl _ HB.out (by have := nx9_len (aft9 r 4) 1; omega)).mono ?_
    rintro e w8 ⟨A5, r5, rfl, ho, hb, _⟩
    have HS8 := Lib.hid (HS7.out.clone hb.out ho.out)
    clear c0 c1 c2 c3 c4 c5 c6 f0 f1 f2 f3 f4 f5 f6
    clear hs HB ho hb HS7
    obtain ⟨c0, c1, c2, c3, c4, c5, c6⟩ := has_seven HS8.out.box
    obtain ⟨f0, f1, f2, f3, f4, f5, f6⟩ := thaw_seven HS8.out.box
    obtain ⟨w9, hw9⟩ : ∃ W, w8.setCell ⟨w3.heap.size, 5, none⟩ (.slice A5 (nx9 (aft9 r 4) 1).length r5) = W := ⟨_, rfl⟩
    have HS9 : Hid (PdSt lo w g w3.heap.size w9 #[.int .i64 ((f : Int) / 2), .int .i64 ((f : Int) % 2), .int .i64 (t : Nat), .int .u32 0, .int .u32 (val9 r 4 : Nat), .slice A5 (nx9 (aft9 r 4) 1).length r5, .int .u64 0] A5 r5 (nx9 (aft9 r 4) 1) (aft9 (aft9 r 4) 1) ((s2 || decide (r.length < 4)) || decide ((aft9 r 4).length < 1))) := Lib.hid (by rw [← hw9]; exact HS8.out.put 5 (.slice A5 (nx9 (aft9 r 4) 1).length r5))
    have HW9 := Lib.hid hw9
    clear hw9 HS8
    go_upto_region 15 with fail
    rw [HW9.out]
    clear HW9
    clear c0 c1 c2 c3 c4 c5 c6 f0 f1 f2 f3 f4 f5 f6
    obtain ⟨c0, c1, c2, c3, c4, c5, c6⟩ := has_seven HS9.out.box
    obtain ⟨f0, f1, f2, f3, f4, f5, f6⟩ := thaw_seven HS9.out.box
    go_wp2_with fail
    refine (HH.out _).mono ?_
    rintro e w20 ⟨rfl, rfl⟩
    go_wp2_with fail
    refine (opd_number lo g 8 8 rfl _ _ _ HS9.out.un hlo (by decide) h87).mono ?_
    rintro e w10 ⟨rfl, hu, hg⟩
    have HS10 := Lib.hid (HS9.out.read hu.out hg.out)
    clear c0 c1 c2 c3 c4 c5 c6 f0 f1 f2 f3 f4 f5 f6
    clear hu hg HS9
    have h810 := aft9_8 h87 8
    obtain ⟨c0, c1, c2, c3, c4, c5, c6⟩ := has_seven HS10.out.box
    obtain ⟨f0, f1, f2, f3, f4, f5, f6⟩ := thaw_seven HS10.out.box
    obtain ⟨w11, hw11⟩ : ∃ W, w10.setCell ⟨w3.heap.size, 6, none⟩ (.int .u64 (val9 (aft9 (aft9 r 4) 1) 8 : Nat)) = W := ⟨_, rfl⟩
    have HS11 : Hid (PdSt lo w g w3.heap.size w11 #[.int .i64 ((f : Int) / 2), .int .i64 ((f : Int) % 2), .int .i64 (t : Nat), .int .u32 0, .int .u32 (val9 r 4 : Nat), .slice A5 (nx9 (aft9 r 4) 1).length r5, .int .u64 (val9 (aft9 (aft9 r 4) 1) 8 : Nat)] A5 r5 (nx9 (aft9 r 4) 1) (aft9 (aft9 (aft9 r 4) 1) 8) (((s2 || decide (r.length < 4)) || decide ((aft9 r 4).length < 1)) || decide ((aft9 (aft9 r 4) 1).length < 8))) := Lib.hid (by rw [← hw11]; exact HS10.out.put 6 (.int .u64 (val9 (aft9 (aft9 r 4) 1) 8 : Nat)))
    have HW11 := Lib.hid hw11
    clear hw11 HS10
    go_upto_region 17 with fail
    rw [HW11.out]
    clear HW11
    clear c0 c1 c2 c3 c4 c5 c6 f0 f1 f2 f3 f4 f5 f6
    obtain ⟨c0, c1, c2, c3, c4, c5, c6⟩ := has_seven HS11.out.box
    obtain ⟨f0, f1, f2, f3, f4, f5, f6⟩ := thaw_seven HS11.out.box
    have HE : Hid (w11.heap[w.heap.size]? = some (.cells #[.int .i64 0, .int .i64 0, .int .i64 0, .int .u32 0, .int .u32 0, .slice none 0 0, .int .u64 0] 30 (0, 0))) := Lib.hid HS11.out.zero
    have HR := Lib.hid (has_setRow7 HE.out #[.int .i64 ((f : Int) / 2), .int .i64 ((f : Int) % 2), .int .i64 (t : Nat), .int .u32 0, .int .u32 (val9 r 4 : Nat), .slice A5 (nx9 (aft9 r 4) 1).length r5, .int .u64 (val9 (aft9 (aft9 r 4) 1) 8 : Nat)])
    have HO := Lib.hid (HS11.out.out #[.int .i64 ((f : Int) / 2), .int .i64 ((f : Int) % 2), .int .i64 (t : Nat), .int .u32 0, .int .u32 (val9 r 4 : Nat), .slice A5 (nx9 (aft9 r 4) 1).length r5, .int .u64 (val9 (aft9 (aft9 r 4) 1) 8 : Nat)])
    go_wp2_with (with_reducible refine wpList_store_rowTo (o := ⟨none, _, _, _, _, _⟩) rfl 30 _ _ rfl rfl w.heap.size #[.int .i64 ((f : Int) / 2), .int .i64 ((f : Int) % 2), .int .i64 (t : Nat), .int .u32 0, .int .u32 (val9 r 4 : Nat), .slice A5 (nx9 (aft9 r 4) 1).length r5, .int .u64 (val9 (aft9 (aft9 r 4) 1) 8 : Nat)] rfl rfl 30 _ HE.out (by kernel_rfl) (by kernel_rfl) (by kernel_rfl) ?_)
    refine bodyPost_ret (results_cell_row rfl _ _ w.heap.size 30 _ _ _ rfl HR.out Try.underlying30 rfl (by kernel_rfl)) rfl ?_
    rw [HQ.out]
    exact ⟨A5, r5, rfl, HO.out⟩
  · have HQ : Hid (seqKind f t r s2 = seqTail ⟨(f : Int) / 2, (f : Int) % 2, (t : Nat), 0, 0, [], 0⟩ r s2) := Lib.hid (by unfold seqKind; rw [if_neg (by omega), if_neg (by omega), if_neg (by omega), if_neg (by omega), hk2, hd2])
    have HH := Lib.hid (fun W => opd_has ((f : Int) / 2) W)
    rw [decide_eq_true (by omega)] at HH
    have x1 : ((f : Int) / 2 == 1) = false := by rw [beq_eq_false_iff_ne]; omega
    have x2 : ((f : Int) / 2 == 2) = false := by rw [beq_eq_false_iff_ne]; omega
    have x3 : ((f : Int) / 2 == 3) = false := by rw [beq_eq_false_iff_ne]; omega
    have x5 : ((f : Int) / 2 == 5) = false := by rw [beq_eq_false_iff_ne]; omega
    have x6 : ((f : Int) / 2 == 6) = false := by rw [beq_eq_false_iff_ne]; omega
    clear hk2 hd2 hkk
    obtain ⟨c0, c1, c2, c3, c4, c5, c6⟩ := has_seven HS4.out.box
    obtain ⟨f0, f1, f2, f3, f4, f5, f6⟩ := thaw_seven HS4.out.box
    go_upto_region 15 with fail
    clear c0 c1 c2 c3 c4 c5 c6 f0 f1 f2 f3 f4 f5 f6
    obtain ⟨c0, c1, c2, c3, c4, c5, c6⟩ := has_seven HS4.out.box
    obtain ⟨f0, f1, f2, f3, f4, f5, f6⟩ := thaw_seven HS4.out.box
    go_wp2_with fail
    refine (HH.out _).mono ?_
    rintro e w20 ⟨rfl, rfl⟩
    go_wp2_with fail
    refine (opd_number lo g 8 8 rfl _ _ _ HS4.out.un hlo (by decide) h82).mono ?_
    rintro e w5 ⟨rfl, hu, hg⟩
    have HS5 := Lib.hid (HS4.out.read hu.out hg.out)
    clear c0 c1 c2 c3 c4 c5 c6 f0 f1 f2 f3 f4 f5 f6
    clear hu hg HS4
    have h85 := aft9_8 h82 8
    obtain ⟨c0, c1, c2, c3, c4, c5, c6⟩ := has_seven HS5.out.box
    obtain ⟨f0, f1, f2, f3, f4, f5, f6⟩ := thaw_seven HS5.out.box
    obtain ⟨w6, hw6⟩ : ∃ W, w5.setCell ⟨w3.heap.size, 6, none⟩ (.int .u64 (val9 r 8 : Nat)) = W := ⟨_, rfl⟩
    have HS6 : Hid (PdSt lo w g w3.heap.size w6 #[.int .i64 ((f : Int) / 2), .int .i64 ((f : Int) % 2), .int .i64 (t : Nat), .int .u32 0, .int .u32 0, .slice none 0 0, .int .u64 (val9 r 8 : Nat)] none 0 [] (aft9 r 8) (s2 || decide (r.length < 8))) := Lib.hid (by rw [← hw6]; exact HS5.out.put 6 (.int .u64 (val9 r 8 : Nat)))
    have HW6 := Lib.hid hw6
    clear hw6 HS5
    go_upto_region 17 with fail
    rw [HW6.out]
    clear HW6
    clear c0 c1 c2 c3 c4 c5 c6 f0 f1 f2 f3 f4 f5 f6
    obtain ⟨c0, c1, c2, c3, c4, c5, c6⟩ := has_seven HS6.out.box
    obtain ⟨f0, f1, f2, f3, f4, f5, f6⟩ := thaw_seven HS6.out.box
    have HE : Hid (w6.heap[w.heap.size]? = some (.cells #[.int .i64 0, .int .i64 0, .int .i64 0, .int .u32 0, .int .u32 0, .slice none 0 0, .int .u64 0] 30 (0, 0))) := Lib.hid HS6.out.zero
    have HR := Lib.hid (has_setRow7 HE.out #[.int .i64 ((f : Int) / 2), .int .i64 ((f : Int) % 2), .int .i64 (t : Nat), .int .u32 0, .int .u32 0, .slice none 0 0, .int .u64 (val9 r 8 : Nat)])
    have HO := Lib.hid (HS6.out.out #[.int .i64 ((f : Int) / 2), .int .i64 ((f : Int) % 2), .int .i64 (t : Nat), .int .u32 0, .int .u32 0, .slice none 0 0, .int .u64 (val9 r 8 : Nat)])
    go_wp2_with (with_reducible refine wpList_store_rowTo (o := ⟨none, _, _, _, _, _⟩) rfl 30 _ _ rfl rfl w.heap.size #[.int .i64 ((f : Int) / 2), .int .i64 ((f : Int) % 2), .int .i64 (t : Nat), .int .u32 0, .int .u32 0, .slice none 0 0, .int .u64 (val9 r 8 : Nat)] rfl rfl 30 _ HE.out (by kernel_rfl) (by kernel_rfl) (by kernel_rfl) ?_)
    refine bodyPost_ret (results_cell_row rfl _ _ w.heap.size 30 _ _ _ rfl HR.out Try.underlying30 rfl (by kernel_rfl)) rfl ?_
    rw [HQ.out]
    exact ⟨none, 0, rfl, HO.out⟩
end Go.Proofs.Ytekcnmimfhiblaa
