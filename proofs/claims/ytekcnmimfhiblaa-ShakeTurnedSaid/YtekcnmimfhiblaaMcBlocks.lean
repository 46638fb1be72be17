/-
  linesideref08.Blocks, by contract.
-/
import Derived.Test.YtekcnmimfhiblaaMgA
import Derived.Test.YtekcnmimfhiblaaCiKey
import Derived.Test.YtekcnmimfhiblaaMgB
namespace Go.Proofs.Ytekcnmimfhiblaa
open Go.RowKit

def w64 (l : List Nat) : List Value := l.map fun (n : Nat) => Value.int .u64 (n : Int)
theorem info_u64 : (Try.prog.info? 28).map (fun i => (i.zero, i.size, i.bytes)) = some (some (.int .u64 0), 1, 8) := by kernel_rfl
theorem at8_at8 {w : World} {A : Option Addr} {xs : List Nat} (h : At8 w A xs) {j : Nat} (hj : j < xs.length) : ∃ b off, A = some ⟨b, off, none⟩ ∧ w.cell? ⟨b, off + j, none⟩ = some (.int .u8 (xs.getD j 0 : Nat)) := by
  obtain ⟨ad, rfl, hc⟩ := h (by omega)
  obtain ⟨b, off, spot⟩ := ad
  have h0 := hc 0 (.int .u8 (xs[0]'(by omega) : Nat)) (by simp [u8s, List.getElem?_eq_getElem (show 0 < xs.length by omega)])
  have hspot : spot = none := by simpa [Addr.add] using World.cell?_spot h0
  subst hspot
  have h1 := hc j (.int .u8 (xs[j] : Nat)) (by simp [u8s, List.getElem?_eq_getElem hj])
  refine ⟨b, off, rfl, ?_⟩
  rw [WideShapes.add_plain] at h1
  rw [List.getD_eq_getElem?_getD, List.getElem?_eq_getElem hj]
  exact h1
theorem at8_low8 {w w' : World} {A : Option Addr} {xs : List Nat} (h : At8 w A xs) (hb : Below w.heap.size w w') : At8 w' A xs := by
  intro hp
  obtain ⟨ad, rfl, hc⟩ := h hp
  exact ⟨ad, rfl, fun j v hv => by rw [hb.cell (cell_block (hc j v hv))]; exact hc j v hv⟩
theorem push_u64 {base : Nat} {w0 w : World} {A : Option Addr} {m c : Nat} {xs : List Value} (n : Nat) (ho : w.ownsRow base 28 1 (.slice A m c) m xs) (hb : Below base w0 w) (hbase : base ≤ w.heap.size) (hm : m ≤ 100000) :
    Hid (([.int .u64 (n : Nat)] : List Value).length = 1 * 1) ∧ Hid ((w.alloc (.cells #[.int .u64 (n : Nat)] 28)).ownsRow base 28 1 (.slice A m c) m xs) ∧
    Hid (∀ i u, ([.int .u64 (n : Nat)] : List Value)[i]? = some u → (w.alloc (.cells #[.int .u64 (n : Nat)] 28)).cell? ((⟨w.heap.size, 0, none⟩ : Addr).add i) = some u) ∧
    Hid (∀ u ∈ ([.int .u64 (n : Nat)] : List Value), u.oneCell' = true) ∧
    Hid (m + 1 ≤ maxLen ∧ (m + 1) * 8 ≤ 140737488355328 ∧ base ≤ (w.alloc (.cells #[.int .u64 (n : Nat)] 28)).heap.size) ∧
    Hid (Below base w0 (w.alloc (.cells #[.int .u64 (n : Nat)] 28))) := by
  refine ⟨Lib.hid rfl, Lib.hid (ho.alloc _), ?_, Lib.hid ?_, Lib.hid ⟨by unfold maxLen; omega, by omega, by simp; omega⟩, Lib.hid (hb.alloc hbase _)⟩
  · refine Lib.hid fun i u hu => ?_
    rw [WideShapes.add_plain, (Has.made w _ _).cell, Nat.zero_add]
    simpa using hu
  · intro u hu
    simp only [List.mem_cons, List.not_mem_nil, or_false] at hu
    subst hu
    rfl
theorem chunkT_56 {xs : List Nat} (h : bytes8 xs) (i t : Nat) (ht : t ≤ 7) : chunkT xs i t < 72057594037927936 := by
  have h1 := chunkT_lt h i t
  have h2 : 256 ^ t ≤ 256 ^ 7 := Nat.pow_le_pow_right (by omega) ht
  have h3 : (256 : Nat) ^ 7 = 72057594037927936 := by decide
  omega

set_option maxRecDepth 100000 in
set_option maxHeartbeats 4000000 in
theorem ref_blocks (A : Option Addr) (c : Nat) (xs : List Nat) (w : World) (ha : At8 w A xs) (hb : bytes8 xs) (hn : xs.length ≤ 100000) :
    Calls Try.prog 63 #[.slice A xs.length c] w fun e w' => ∃ A' c', e = .returned (.slice A' (nblk xs.length + 1) c') ∧ w'.ownsRow w.heap.size 28 1 (.slice A' (nblk xs.length + 1) c') (nblk xs.length + 1) (w64 (blocksF xs)) ∧ Below w.heap.size w w' := by
  obtain ⟨q, hq⟩ : ∃ q, nblk xs.length = q := ⟨_, rfl⟩
  have hqe : q = (xs.length + 7) / 8 := hq.symm
  have hol := World.ownsRow_lit (base := w.heap.size) (e := 28) (size := 1) w #[.int .u64 (xs.length : Nat)] 1 (Nat.le_refl _) (by unfold maxLen; omega) rfl
  have hol2 : (w.alloc (.cells #[.int .u64 (xs.length : Nat)] 28)).ownsRow w.heap.size 28 1 (.slice (some ⟨w.heap.size, 0, none⟩) (0 + 1) 1) (0 + 1) (w64 (xs.length :: chunks xs 0)) := hol
  have HOL := Lib.hid hol2
  have HA := Lib.hid ha; have HBY := Lib.hid hb
  have HBQ : Hid (blocksF xs = xs.length :: chunks xs q) := Lib.hid (by unfold blocksF; rw [hq])
  rw [hq]
  clear hol hol2 ha hb hq
  go_enter Try.func63, Try.ntmps63
  go_wp2
  go_loopw [3, 4] (fun s3 s4 wr => ∃ (j : Nat) (A3 : Option Addr) (c3 : Nat), s3 = .slice A3 (j + 1) c3 ∧ s4 = .int .i64 ((8 * j : Nat) : Int) ∧ j ≤ q ∧ wr.ownsRow w.heap.size 28 1 (.slice A3 (j + 1) c3) (j + 1) (w64 (xs.length :: chunks xs j)) ∧ Below w.heap.size w wr) (fun _ s4 _ => xs.length - (intOf s4).toNat)
  case atStart => exact ⟨0, some ⟨w.heap.size, 0, none⟩, 1, rfl, rfl, by omega, HOL.out, (Below.refl _ _).alloc (Nat.le_refl _) _⟩
  case round =>
    clear HOL
    obtain ⟨j, A3, c3, rfl, rfl, hj, ho, hbw⟩ := hrel
    have HO := Lib.hid ho; have HBW := Lib.hid hbw
    have hsz := hbw.size
    clear ho hbw
    by_cases hlt : 8 * j < xs.length
    · have x0 : ((8 * j : Nat) : Int) < (xs.length : Int) := by omega
      obtain ⟨w1, hw1⟩ : ∃ w1, wr = w1 := ⟨_, rfl⟩
      rw [hw1] at HO HBW hsz ⊢
      clear hw1
      have HA1 := Lib.hid (at8_low8 HA.out HBW.out)
      obtain ⟨i, hi⟩ : ∃ i, 8 * j = i := ⟨_, rfl⟩
      rw [hi] at x0 hlt ⊢
      go_wp2
      go_loopw [5, 6] (fun s5 s6 wr => ∃ t n : Nat, s5 = .int .u64 (n : Nat) ∧ n = chunkT xs i t ∧ s6 = .int .i64 ((i + t : Nat) : Int) ∧ t ≤ 8 ∧ wr = w1) (fun _ s6 _ => i + 8 - (intOf s6).toNat)
      case atStart => exact ⟨0, 0, rfl, rfl, rfl, by omega, rfl⟩
      case round =>
        obtain ⟨t, n, rfl, hnn, rfl, ht, hww⟩ := hrel
        subst hww
        have HNN := Lib.hid hnn
        by_cases ht8 : t < 8
        · have hn56 : n < 72057594037927936 := by rw [hnn]; exact chunkT_56 HBY.out i t (by omega)
          have y0 : ((i + t : Nat) : Int) < (i : Int) + 8 := by omega
          have hn1 : chunkT xs i (t + 1) = n * 256 + xs.getD (i + t) 0 := by rw [chunkT, ← hnn]
          have hy8 := getD_lt HBY.out (i + t)
          clear hnn
          by_cases hin : i + t < xs.length
          · obtain ⟨b0, o0, rfl, f0⟩ := at8_at8 HA1.out hin
            have y1 : ((i + t : Nat) : Int) < (xs.length : Int) := by omega
            have y2 : (0 : Int) ≤ ((i + t : Nat) : Int) := by omega
            generalize xs.getD (i + t) 0 = v at *
            have HN1 := Lib.hid hn1
            clear hn1
            obtain ⟨p, hp⟩ : ∃ p, i + t = p := ⟨_, rfl⟩
            rw [hp] at y0 y1 y2 f0 ⊢
            go_wp2
            go_roundw
            case rel => exact ⟨t + 1, n * 256 + v, by go_num, HN1.out.symm, by go_num, by omega, trivial⟩
            case measure => simp [intOf]; omega
          · have y1 : ¬ ((i + t : Nat) : Int) < (xs.length : Int) := by omega
            have h0 : xs.getD (i + t) 0 = 0 := by rw [List.getD_eq_getElem?_getD, List.getElem?_eq_none (by omega)]; rfl
            rw [h0, Nat.add_zero] at hn1
            have HN1 := Lib.hid hn1
            clear hn1 h0 hy8
            obtain ⟨p, hp⟩ : ∃ p, i + t = p := ⟨_, rfl⟩
            rw [hp] at y0 y1 ⊢
            go_wp2
            go_roundw
            case rel => exact ⟨t + 1, n * 256, by go_num, HN1.out.symm, by go_num, by omega, trivial⟩
            case measure => simp [intOf]; omega
        obtain rfl : t = 8 := by omega
        have y0 : ¬ ((i + 8 : Nat) : Int) < (i : Int) + 8 := by omega
        have HCH := Lib.hid (chunks_succ xs j)
        rw [hi, ← hnn] at HCH
        obtain ⟨q1, q2, q3, q4, q5, q6⟩ := push_u64 n HO.out HBW.out hsz (by omega)
        clear hnn HNN
        go_wp2_with (with_reducible refine wpList_push2 (o := ⟨some 40, _, _, _, _, _⟩) rfl (.tmp 37) (.tmp 39) 84 rfl w.heap.size 28 (.int .u64 0) 1 8 Try.underlying84 info_u64 ?hz (by decide) A3 (j + 1) c3 (w64 (xs.length :: chunks xs j)) ?hs q2 ⟨wr.heap.size, 0, none⟩ 1 1 [.int .u64 (n : Nat)] ?hx q1 q3 q4 q5 ?next)
        all_goals try rfl
        case next =>
          intro A7 c7 w7 ho7 hg7 _
          have HB7 := Lib.hid (below_own q6.out q5.out.2.2 q2.out (Nat.le_refl _) rfl hg7.out)
          have HO7 : Hid (w7.ownsRow w.heap.size 28 1 (.slice A7 (j + 1 + 1) c7) (j + 1 + 1) (w64 (xs.length :: chunks xs (j + 1)))) := Lib.hid (by
            rw [HCH.out]
            have h := ho7.out
            simpa [w64] using h)
          clear ho7 hg7 q1 q2 q3 q4 q5 q6 HCH
          go_wp2
          go_roundw
          case rel => exact ⟨j + 1, A7, c7, rfl, by go_num, by omega, HO7.out, HB7.out⟩
          case measure => simp [intOf]; omega
    have x0 : ¬ ((8 * j : Nat) : Int) < (xs.length : Int) := by omega
    obtain rfl : j = q := by omega
    clear hqe
    go_wp2
    go_ret
    exact ⟨A3, c3, rfl, by rw [HBQ.out]; exact HO.out, HBW.out⟩
end Go.Proofs.Ytekcnmimfhiblaa
