/-
  mac: a block; the blocks, yielded and ranged over; Mac, by contract.
-/
import Derived.Test.YtekcnmimfhiblaaMcDer
import Derived.RangeFuncNested
import Derived.RangeFuncBound
import Derived.RangeFuncCalls
import Derived.RangeFuncLeaves
import Derived.Shelf.Abstract
import Derived.Shelf.RegionOpen
import Derived.OwnWalkIn
import Derived.TacticsInMore
import Derived.LoopNIn
import Derived.LoopIn
namespace Go.Proofs.Ytekcnmimfhiblaa
open Go.RowKit Go.Shelf
attribute [local go_sem] Oper.semAt_some

set_option maxRecDepth 100000 in
set_option maxHeartbeats 2000000 in
theorem oblock_any (A : Option Addr) (c : Nat) (xs : List Nat) (st : Nat) (w : World) (ha : At8 w A xs) (hb : bytes8 xs) (hn : xs.length ≤ 100000) (hst : st ≤ 100000) :
    Calls Try.prog 78 #[.slice A xs.length c, .int .i64 (st : Nat)] w fun e w' => e = .returned (.int .u64 (chunkT xs st 8 : Nat)) ∧ Below w.heap.size w w' := by
  have HA := Lib.hid ha; have HBY := Lib.hid hb
  clear ha hb
  go_enter Try.func78, Try.ntmps78
  go_wp2
  go_loopw [5, 7] (fun s5 s7 wr => ∃ t n : Nat, s5 = .int .u64 (n : Nat) ∧ n = chunkT xs st t ∧ s7 = .int .i64 (t : Nat) ∧ t ≤ 8 ∧ wr = w) (fun _ s7 _ => 8 - (intOf s7).toNat)
  case atStart => exact ⟨0, 0, rfl, rfl, rfl, by omega, rfl⟩
  case round =>
    obtain ⟨t, n, rfl, hnn, rfl, ht, hww⟩ := hrel
    subst hww
    by_cases ht8 : t < 8
    · have hn56 : n < 72057594037927936 := by rw [hnn]; exact chunkT_56 HBY.out st t (by omega)
      have hn1 : chunkT xs st (t + 1) = n * 256 + xs.getD (st + t) 0 := by rw [chunkT, ← hnn]
      have hy8 := getD_lt HBY.out (st + t)
      have x0 : (t : Int) < 8 := by omega
      have x1 : (0 : Int) ≤ (t : Int) := by omega
      have x2 : ((n : Int) * 256) % 18446744073709551616 = (n : Int) * 256 := by omega
      clear hnn
      by_cases hin : st + t < xs.length
      · obtain ⟨b0, o0, rfl, f0⟩ := at8_at8 HA.out hin
        generalize xs.getD (st + t) 0 = v at *
        have y1 : (st : Int) + (t : Int) < (xs.length : Int) := by omega
        have y2 : (0 : Int) ≤ (st : Int) + (t : Int) := by omega
        have y3 : ((st : Int) + (t : Int)).toNat = st + t := by omega
        have ho : bits .or .u64 ((n : Int) * 256) (v : Int) = ((n * 256 + v : Nat) : Int) := by
          have p : (2 : Nat) ^ 8 = 256 := by decide
          have h := or_parts (a := n) (b := v) (k := 8) (by rw [p]; exact hy8)
          rw [p, Nat.mul_comm] at h
          have h2 := u64_or_nat (n * 256) v (by omega) (by omega)
          rw [h] at h2
          simp only [Int.natCast_mul, Int.cast_ofNat_Int] at h2
          exact h2
        have HN1 := Lib.hid hn1
        clear hn1
        go_wp2
        go_roundw
        case rel => exact ⟨t + 1, n * 256 + v, by go_num, HN1.out.symm, by go_num, by omega, trivial⟩
        case measure => simp [intOf]; omega
      · have y1 : ¬ (st : Int) + (t : Int) < (xs.length : Int) := by omega
        have h0 : xs.getD (st + t) 0 = 0 := by rw [List.getD_eq_getElem?_getD, List.getElem?_eq_none (by omega)]; rfl
        rw [h0, Nat.add_zero] at hn1
        have HN1 := Lib.hid hn1
        clear hn1 h0 hy8
        go_wp2
        go_roundw
        case rel => exact ⟨t + 1, n * 256, by go_num, HN1.out.symm, by go_num, by omega, trivial⟩
        case measure => simp [intOf]; omega
    obtain rfl : t = 8 := by omega
    have HNN := Lib.hid hnn
    clear hnn
    go_wp2
    go_ret
    exact ⟨by rw [← HNN.out]; rfl, Below.refl _ _⟩

abbrev U64 := { n : Nat // n < 18446744073709551616 }
/-- What a round keeps: what lay below, and the box of the bytes. -/
def KpB (n₀ g : Nat) (t : TypeId) (W W' : World) : Prop := Below n₀ W W' ∧ ∀ cs, Has W g t cs → Has W' g t cs
theorem kpB_t {n₀ g : Nat} {t : TypeId} {A B C : World} (h : KpB n₀ g t A B) (k : KpB n₀ g t B C) : KpB n₀ g t A C := ⟨h.1.trans k.1, fun cs hc => k.2 cs (h.2 cs hc)⟩
theorem kpB_b {n₀ g : Nat} {t : TypeId} {w : World} (hn : n₀ ≤ w.heap.size) (hg : g < w.heap.size) (W : World) (l : Nat) (o o' : Obj) (hl : w.heap.size ≤ l) (h : W.heap[l]? = some o) (hc : o.isCells = false) (hw : o.isWalk = false) : KpB n₀ g t W (W.putObj l o') :=
  ⟨belowK_b hn W l o o' hl h hc hw, fun cs hh => (World.putObj_heap_other (by omega)).trans hh⟩
def valU (l : List U64) : List Nat := l.map fun x => x.1
def encU (x : U64) : Array Value := #[.int .u64 ((x.1 : Nat) : Int)]

set_option maxRecDepth 100000 in
set_option maxHeartbeats 4000000 in
theorem oblocks_stops (n : Nat) (hn1 : 1 ≤ n) (A : Option Addr) (c : Nat) (xs : List Nat) (hb : bytes8 xs) (hn : xs.length ≤ 100000) (w0 : World) (ha : At8 w0 A xs) (g : Nat) (w : World) (hbx : Has w g 27 #[.slice A xs.length c]) (hw0 : Below w0.heap.size w0 w) :
    SeqStopsK Fence.wide n Try.prog 77 #[.pointer (some ⟨g, 0, none⟩)] encU (KpB w0.heap.size g 27) (fun ys => valU ys = blocksF xs) (fun _ => True) (nblk xs.length + 1) w := fun l J Jx W hW hJ hJx hY h0 => by
  refine callsIn_of_wp Try.func77 rfl trivial ?_ rfl
  simp only [Try.ntmps77, List.size_toArray, List.length_cons, List.length_nil, Nat.reduceAdd, Nat.reduceSub, Array.replicate_succ, Array.replicate_zero, List.push_toArray, List.append_toArray, List.nil_append, List.cons_append]
  have hbW := hbx.under hW hbx.lt
  have hwW := hw0.trans (hW.mono hw0.size)
  obtain ⟨f1, t1, a1, b1, hy1, hR1⟩ := hY [] ⟨xs.length, by omega⟩ W h0 (by simp)
  dsimp only [encU] at hy1
  have cb := hbW.cell 0
  simp at cb
  have HA := Lib.hid ha; have HBY := Lib.hid hb
  have HL := Lib.hid (fun i => chunk_lt hb i 8 (Nat.le_refl _))
  have hs0 : valU ([] ++ [(⟨xs.length, by omega⟩ : U64)]) = xs.length :: chunks xs 0 := rfl
  generalize hP : ([] ++ [(⟨xs.length, by omega⟩ : U64)]) = P1 at *
  gi_wp2
  refine hR1.mono ?_
  rintro e W1 (⟨rfl, hJ1, hk1⟩ | ⟨rfl, hJx1⟩)
  · have HB1 := Lib.hid (hk1.2 _ hbW)
    have HW1 := Lib.hid (hwW.trans hk1.1)
    clear hP cb hbW hwW hk1 h0 hy1 hR1 hbx hw0 hW ha hb
    gi_wp2
    gi_loopw [3] (fun s3 wr => ∃ (j : Nat) (pre : List U64), s3 = .int .i64 ((8 * j : Nat) : Int) ∧ j ≤ nblk xs.length ∧ valU pre = xs.length :: chunks xs j ∧ J pre wr ∧ Has wr g 27 #[.slice A xs.length c] ∧ Below w0.heap.size w0 wr) (fun s3 _ => xs.length - (intOf s3).toNat)
    case atStart => exact ⟨0, P1, rfl, by omega, hs0, hJ1, HB1.out, HW1.out⟩
    case round =>
      clear HB1 HW1 hJ1 hs0
      obtain ⟨j, pre, rfl, hj, hpre, hJp, hbw, hww⟩ := hrel
      have cb := hbw.cell 0
      simp at cb
      by_cases hlt : 8 * j < xs.length
      · have hq : j < nblk xs.length := by unfold nblk; omega
        have hlen : pre.length < nblk xs.length + 1 := by
          have := congrArg List.length hpre
          simp [chunks, valU] at this
          omega
        have hbk := fun W6 (h6 : Below wr.heap.size wr W6) => oblock_any A c xs (8 * j) W6 (at8_low8 HA.out (hww.trans (h6.mono hww.size))) HBY.out hn (by omega)
        rw [show ((8 * j : Nat) : Int) = 8 * (j : Int) by omega] at hbk ⊢
        have HBK := Lib.hid hbk
        have x0 : 8 * (j : Int) < (xs.length : Int) := by omega
        have hsc := chunks_succ xs j
        clear hbk
        gi_wp2_with (refine ⟨trivial, ?_⟩; gi_at_call 78; refine (callsIn_wide.2 (HBK.out _ (Below.refl _ _))).mono ?_; rintro e W6 ⟨rfl, hb6⟩; have hJ6 := hJ pre wr W6 none hJp (only_below hb6 (Nat.le_refl _) none) (by intro r e; cases e); obtain ⟨f2, t2, a2, b2, hy2, hR2⟩ := hY pre ⟨chunkT xs (8 * j) 8, HL.out _⟩ W6 hJ6 hlen; dsimp only [encU] at hy2)
        have HB6 := Lib.hid (hbw.under hb6 hbw.lt)
        have HW6 := Lib.hid (hww.trans (hb6.mono hww.size))
        refine hR2.mono ?_
        rintro e W3 (⟨rfl, hJ3, hk3⟩ | ⟨rfl, hJx3⟩)
        · have HB3 := Lib.hid (hk3.2 _ HB6.out)
          have HW3 := Lib.hid (HW6.out.trans hk3.1)
          have HP : Hid (valU (pre ++ [⟨chunkT xs (8 * j) 8, HL.out _⟩]) = xs.length :: chunks xs (j + 1)) := Lib.hid (by rw [hsc]; unfold valU at hpre ⊢; rw [List.map_append, hpre]; rfl)
          clear hR2 hy2 hJp hbw hww cb hJ6 hb6 HB6 HW6 hpre hsc HBK
          gi_wp2
          go_roundw
          case rel => exact ⟨j + 1, _, by go_num, by omega, HP.out, hJ3, HB3.out, HW3.out⟩
          case measure => simp [intOf]; omega
        · clear hR2 hy2 hJp hbw hww cb hJ6 hb6 HB6 HW6
          gi_wp2
          refine bodyPost_ret (results_none rfl _ _ _) rfl ?_
          exact ⟨⟨_, rfl⟩, .inr ⟨_, trivial, hJx3⟩⟩
      obtain rfl : j = nblk xs.length := by unfold nblk at hj ⊢; omega
      have x0 : ¬ ((8 * nblk xs.length : Nat) : Int) < (xs.length : Int) := by omega
      have HP := Lib.hid hpre
      clear hpre
      gi_wp2
      go_end0
      exact ⟨⟨_, rfl⟩, .inl ⟨pre, HP.out, hJp⟩⟩
  · gi_wp2
    refine bodyPost_ret (results_none rfl _ _ _) rfl ?_
    exact ⟨⟨_, rfl⟩, .inr ⟨_, trivial, hJx1⟩⟩

theorem omakes_any (A : Option Addr) (n c : Nat) (w : World) :
    Calls Try.prog 72 #[.slice A n c] w fun e w' => e = .returned (.func (.func 77) #[] #[.pointer (some ⟨w.heap.size, 0, none⟩)]) ∧ w' = w.alloc (.cells #[.slice A n c] 27) := by
  go_enter Try.func72, Try.ntmps72
  go_wp2
  go_ret
  exact ⟨rfl, rfl⟩
theorem has_kept {W W' : World} {g : Nat} {t : TypeId} {cs : Array Value} {row : Option Nat} (h : Has W g t cs) (hg : W.grownBy W' row) (hr : ∀ r, row = some r → ∃ o : Obj, W.heap[r]? = some o ∧ o.isCells = false) : Has W' g t cs :=
  h.grow hg (fun e => by
    obtain ⟨o, ho, hc⟩ := hr g e.symm
    rw [show W.heap[g]? = _ from h] at ho
    cases ho
    cases hc)
theorem others_below {W W' : World} (h : Below W.heap.size W W') : KeepsOthers W W' := KeepsOthers.of_grownBy (only_below h (Nat.le_refl _) none) (by intro j o e; cases e)
theorem valU_snoc (pre : List U64) (x : U64) : valU (pre ++ [x]) = valU pre ++ [x.1] := by simp [valU]
theorem valU_lt (pre : List U64) : lt64 (valU pre) := by
  intro x hx
  obtain ⟨y, _, rfl⟩ := List.mem_map.1 hx
  exact y.2
set_option maxRecDepth 100000 in
set_option maxHeartbeats 4000000 in
theorem omc_mac (k : Key4) (hk : k.ok) (A : Option Addr) (c : Nat) (xs : List Nat) (w : World) (ha : At8 w A xs) (hb : bytes8 xs) (hn : xs.length ≤ 100000) :
    Calls Try.prog 62 #[keyV k, .slice A xs.length c] w fun e w' => e = .returned (.int .u64 (macF k xs : Nat)) ∧ Below w.heap.size w w' := by
  unfold keyV keyA
  refine (callsIn_wide (n := 4)).1 ?_
  refine callsIn_of_wp_marks Try.func62 rfl trivial ?_ rfl
  simp only [Try.ntmps62, List.size_toArray, List.length_cons, List.length_nil, Nat.reduceAdd, Nat.reduceSub, Array.replicate_succ, Array.replicate_zero, List.push_toArray, List.append_toArray, List.nil_append, List.cons_append]
  gi_wp2_with (refine ⟨trivial, ?_⟩; gi_at_call 72; refine (callsIn_wide.2 (omakes_any _ _ _ _)).mono ?_; rintro e w' ⟨rfl, rfl⟩)
  obtain ⟨w3, hw3⟩ : ∃ w3, ((w.alloc (.cells #[.int .u32 (k.a : Nat), .int .u32 (k.b : Nat), .int .u32 (k.c : Nat), .int .u32 (k.d : Nat)] 24)).alloc (.cells #[.int .u64 0] 28)).alloc (.cells #[.slice A xs.length c] 27) = w3 := ⟨_, rfl⟩
  rw [hw3]
  have hs3 : w3.heap.size = w.heap.size + 3 := by rw [← hw3]; simp
  have hk3 : Has w3 w.heap.size 24 (keyA k) := by rw [← hw3]; exact ((Has.made _ _ _).beside _).beside _
  have hm3 : Has w3 (w.heap.size + 1) 28 #[.int .u64 (foldE k (valU []) 0 : Nat)] := by
    rw [← hw3, show valU [] = [] from rfl, foldE_nil]
    exact (has_at (by simp)).beside _
  have hx3 : Has w3 (w.heap.size + 1 + 1) 27 #[.slice A xs.length c] := by rw [← hw3]; exact has_at (by simp)
  have hb3 : Below w.heap.size w w3 := by rw [← hw3]; exact (((Below.refl _ _).alloc (Nat.le_refl _) _).alloc (by simp) _).alloc (by simp; omega) _
  clear hw3
  refine wpIn_rangeFunc_ownF rfl (by omega) (gf := 77) (lb := #[.pointer (some ⟨w.heap.size + 1 + 1, 0, none⟩)]) rfl trivial (enters_of Try.func77 (by kernel_rfl) rfl)
    (oblocks_stops 3 (by omega) A c xs hb hn w ha (w.heap.size + 1 + 1) w3 hx3 hb3) kpB_t (kpB_b (by omega) (by omega)) (Below.refl _ _) (fun _ => rfl)
    (fun pre W => (Has W w.heap.size 24 (keyA k) ∧ Has W (w.heap.size + 1) 28 #[.int .u64 (foldE k (valU pre) 0 : Nat)]) ∧ Below w.heap.size w W)
    (fun _ _ _ => False)
    (OwnFrom.and (Own.from (fun s A B row hs hg hr => ⟨has_kept hs.1 hg hr, has_kept hs.2 hg hr⟩) _) (ownFrom_below (Nat.le_refl _) (by omega)))
    (fun _ _ _ _ _ hs _ _ => hs)
    ⟨⟨hk3, hm3⟩, hb3⟩
    (fun x => { tmps := #[.agg #[.int .u32 (k.a : Nat), .int .u32 (k.b : Nat), .int .u32 (k.c : Nat), .int .u32 (k.d : Nat)], .slice A xs.length c, .pointer (some ⟨w.heap.size, 0, none⟩), undef, .int .u64 0, .pointer (some ⟨w.heap.size + 1, 0, none⟩), .int .u64 (x.1 : Nat), .slice A xs.length c, .func (.func 77) #[] #[.pointer (some ⟨w.heap.size + 1 + 1, 0, none⟩)], .int .u64 (x.1 : Nat), undef, undef, undef, undef, undef, undef], defers := [] }) ?assign ?body ?done ?stop
  case assign =>
    intro l x W K hK
    dsimp only [encU]
    gi_wp2
    exact hK
  case body =>
    rintro l pre ⟨x, hx⟩ W ⟨⟨hkk, hmm⟩, hB⟩ _
    have hm64 := foldE_lt hk (valU pre) 0 (valU_lt pre) (by decide)
    have hst : foldE k (valU (pre ++ [⟨x, hx⟩])) 0 = encF7 k (foldE k (valU pre) 0 ^^^ x) := by rw [valU_snoc, foldE_app, foldE_cons, foldE_nil, stepE]
    have hxm := xor64i (rfl : foldE k (valU pre) 0 ^^^ x = foldE k (valU pre) 0 ^^^ x) hm64 hx
    have HE := Lib.hid (fun W => ocp_encrypt k hk (foldE k (valU pre) 0 ^^^ x) (xor64 hm64 hx) W)
    have HKK := Lib.hid hkk; have HMM := Lib.hid hmm
    rw [← hst] at HE
    obtain ⟨z, hz⟩ : ∃ z, foldE k (valU (pre ++ [⟨x, hx⟩])) 0 = z := ⟨_, rfl⟩
    rw [hz] at HE hst
    have HZ := Lib.hid hz
    clear hz
    generalize foldE k (valU pre) 0 ^^^ x = y at *
    generalize foldE k (valU pre) 0 = m at *
    obtain ⟨c0, c1, c2, c3⟩ := key_cells hkk
    have c4 := hmm.cell 0
    simp at c4
    unfold keyV keyA at HE
    clear hst
    gi_wp2_with (refine ⟨trivial, ?_⟩; gi_at_call 65; refine (CallsIn.inRound l (callsIn_wide.2 (HE.out _))).mono ?_; rintro e w6 ⟨rfl, hb6⟩; have c5 : w6.cell? ⟨w.heap.size + 1, 0, none⟩ = some (.int .u64 (m : Nat)) := (hmm.under hb6 hmm.lt).cell 0; have c6 := (hmm.under hb6 hmm.lt).thaw 0)
    have hb6' := hb6.mono hB.size
    have hmm6 := hmm.under hb6 hmm.lt
    exact ⟨(others_below hb6).trans (KeepsOthers.setCell _ _ _), ⟨hb6'.setCell (p := ⟨w.heap.size + 1, 0, none⟩) (by show w.heap.size ≤ w.heap.size + 1; omega) _, fun cs h => (h.under hb6 h.lt).apart (show w.heap.size + 1 + 1 ≠ w.heap.size + 1 by omega) _⟩,
      ⟨(hkk.under hb6 hkk.lt).apart (show w.heap.size ≠ w.heap.size + 1 by omega) _, by rw [HZ.out]; exact hmm6.stored 0 _⟩, (hB.trans hb6').setCell (p := ⟨w.heap.size + 1, 0, none⟩) (by show w.heap.size ≤ w.heap.size + 1; omega) _⟩
  case done =>
    rintro D ys W hD hys ⟨⟨hkk, hmm⟩, hB⟩ hK
    rw [hys] at hmm
    have c4 := hmm.cell 0
    simp at c4
    gi_wp2
    refine ⟨by simp, .inl ⟨_, _, rfl, run_takeDeferred hK, ?_⟩⟩
    exact ⟨_, results_tmp rfl _ _ _, rfl, hB.trans (belowK_b (w := w) (Nat.le_refl _) W D _ _ (by omega) hK rfl rfl)⟩
  case stop =>
    rintro D c pre W _ _ h _
    exact h.elim
end Go.Proofs.Ytekcnmimfhiblaa
