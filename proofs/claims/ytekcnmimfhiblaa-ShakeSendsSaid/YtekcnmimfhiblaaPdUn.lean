/-
  package pdu as landed: what was not read yet: next, number, word.
-/
import Derived.Test.YtekcnmimfhiblaaPdLeaf
namespace Go.Proofs.Ytekcnmimfhiblaa
open Go.RowKit
open Go.Great

/-- What a reading of m bytes gives; what is left behind it; the number that they are. -/
def nx9 (l : List Nat) (m : Nat) : List Nat := if m ≤ l.length then l.take m else []
def aft9 (l : List Nat) (m : Nat) : List Nat := if m ≤ l.length then l.drop m else l
def val9 (l : List Nat) (m : Nat) : Nat := chunkT (nx9 l m) 0 (nx9 l m).length
theorem nx9_8 {l : List Nat} (h : bytes8 l) (m : Nat) : bytes8 (nx9 l m) := by
  unfold nx9
  split
  · exact fun x hx => h x (List.mem_of_mem_take hx)
  · exact fun x hx => by cases hx
theorem aft9_8 {l : List Nat} (h : bytes8 l) (m : Nat) : bytes8 (aft9 l m) := by
  unfold aft9
  split
  · exact fun x hx => h x (List.mem_of_mem_drop hx)
  · exact h
theorem nx9_len (l : List Nat) (m : Nat) : (nx9 l m).length ≤ m := by
  unfold nx9
  split
  · rw [List.length_take]; omega
  · simp
theorem aft9_len (l : List Nat) (m : Nat) : (aft9 l m).length ≤ l.length := by
  unfold aft9
  split
  · rw [List.length_drop]; omega
  · exact Nat.le_refl _
theorem val9_lt {l : List Nat} (h : bytes8 l) (m : Nat) : val9 l m < 256 ^ m :=
  Nat.lt_of_lt_of_le (chunkT_lt (nx9_8 h m) 0 _) (Nat.pow_le_pow_right (by decide) (nx9_len l m))

/-- The unread bytes of an encoding, at block g; all of them lie below lo. -/
def UnR (lo : Nat) (w : World) (g : Nat) (l : List Nat) (s : Bool) : Prop :=
  ∃ B c, Has w g 82 #[.slice B l.length c, .bool s] ∧ At8 w B l ∧ l.length ≤ c ∧ (0 < l.length → ∀ a, B = some a → a.block < lo)
theorem at8_row9 {w w' : World} {lo : Nat} {B : Option Addr} {l : List Nat} {row : Nat} (h : At8 w B l) (hb : 0 < l.length → ∀ a, B = some a → a.block < lo) (hg : w.grownBy w' (some row)) (hr : lo ≤ row) : At8 w' B l := by
  intro hp
  obtain ⟨ad, rfl, _⟩ := h hp
  exact sl_at8 ((sl_bytes (c := 0) h (fun e => by cases e)).grow2 hg (fun a ha => by have := hb hp a ha; simp only [ne_eq, Option.some.injEq]; omega)) hp
theorem at8_to9 {w : World} {B : Option Addr} {l : List Nat} (h : At8 w B l) (c : Nat) {m : Nat} (hm : m ≤ l.length) : At8 w (if c = 0 then B else B.map (·.add (0 * 1))) (l.take m) := by
  intro hp
  obtain ⟨ad, rfl, _⟩ := h (by rw [List.length_take] at hp; omega)
  have h1 := (sl_bytes (c := c) h (fun e => by cases e)).to_ hm
  have e : (u8s l).take m = u8s (l.take m) := by simp [u8s, List.map_take]
  have hl : (l.take m).length = m := by rw [List.length_take]; omega
  rw [e] at h1
  have h2 : Sl w 1 (if c = 0 then some ad else (some ad).map (·.add (0 * 1))) (l.take m).length c (u8s (l.take m)) := by rw [hl]; exact h1
  exact sl_at8 h2 hp
theorem at8_from9 {w : World} {B : Option Addr} {l : List Nat} (h : At8 w B l) {c : Nat} (hc : l.length ≤ c) {m : Nat} (hm : m ≤ l.length) : At8 w (if c = m then B else B.map (·.add (m * 1))) (l.drop m) := by
  intro hp
  obtain ⟨ad, rfl, _⟩ := h (by rw [List.length_drop] at hp; omega)
  have h1 := (sl_bytes (c := c) h (fun e => by cases e)).from_ hc hm
  have e : (u8s l).drop m = u8s (l.drop m) := by simp [u8s, List.map_drop]
  rw [e, ← List.length_drop] at h1
  exact sl_at8 h1 hp
theorem UnR.lt {lo g : Nat} {w : World} {l : List Nat} {s : Bool} (h : UnR lo w g l s) : g < w.heap.size := by
  obtain ⟨B, c, hh, _⟩ := h
  exact hh.lt
theorem UnR.grow {lo g row : Nat} {w w' : World} {l : List Nat} {s : Bool} (h : UnR lo w g l s) (hg : w.grownBy w' (some row)) (hr : lo ≤ row) (hne : g ≠ row) : UnR lo w' g l s := by
  obtain ⟨B, c, hh, hs, hc, hb⟩ := h
  exact ⟨B, c, hh.grow hg (by simpa using hne), at8_row9 hs hb hg hr, hc, hb⟩
theorem UnR.under {lo g : Nat} {w w' : World} {l : List Nat} {s : Bool} (h : UnR lo w g l s) (hb : Below w.heap.size w w') : UnR lo w' g l s := by
  obtain ⟨B, c, hh, hs, hc, hb'⟩ := h
  exact ⟨B, c, hh.under hb hh.lt, at8_low8 hs hb, hc, hb'⟩

def NextPost (lo g : Nat) (ys l' : List Nat) (s' : Bool) (w : World) (e : Ending) (w' : World) : Prop :=
  ∃ B c, e = .returned (.slice B ys.length c) ∧ Hid (At8 w' B ys) ∧ Hid (0 < ys.length → ∀ a, B = some a → a.block < lo) ∧ Hid (UnR lo w' g l' s') ∧ Hid (w.grownBy w' (some g))
set_option maxRecDepth 100000 in
set_option maxHeartbeats 4000000 in
theorem opd_next (lo g m : Nat) (M : Int) (hM : M = (m : Nat)) (l : List Nat) (s : Bool) (w : World) (h : UnR lo w g l s) (hlo : lo ≤ g) :
    Calls Try.prog 71 #[.pointer (some ⟨g, 0, none⟩), .int .i64 M] w (NextPost lo g (nx9 l m) (aft9 l m) (s || decide (l.length < m)) w) := by
  subst hM
  obtain ⟨B, c, hh, hs, hc, hb⟩ := h
  have e0 := hh.cell 0; have e1 := hh.cell 1; have f0 := hh.thaw 0; have f1 := hh.thaw 1
  simp at e0 e1
  have HH := Lib.hid hh; have HS := Lib.hid hs; have HB := Lib.hid hb
  clear hh hs hb
  by_cases hin : m ≤ l.length
  · have x1 : ¬ (l.length : Int) < (m : Int) := by omega
    have hto := fun W => cut_to (P := Try.prog) 27 5 Try.underlying27 (by kernel_rfl) size_u8 B l.length c m (by omega) W
    have hfr := fun W => cut_from (P := Try.prog) 27 5 Try.underlying27 (by kernel_rfl) size_u8 B l.length c m hin W
    have h1 := at8_to9 HS.out c hin
    have h2 := at8_from9 HS.out hc hin
    have b1 : 0 < (l.take m).length → ∀ a, (if c = 0 then B else B.map (·.add (0 * 1))) = some a → a.block < lo := fun hp a ha => by
      cases B with
      | none => split at ha <;> cases ha
      | some a0 =>
        have h0 := HB.out (by rw [List.length_take] at hp; omega) a0 rfl
        rw [Option.map_some] at ha
        have e : (a0.add (0 * 1)) = a0 := by unfold Addr.add; simp
        rw [e] at ha
        have : a = a0 := by split at ha <;> (injection ha with ha; exact ha.symm)
        rw [this]; exact h0
    have b2 : 0 < (l.drop m).length → ∀ a, (if c = m then B else B.map (·.add (m * 1))) = some a → a.block < lo := fun hp a ha => by
      obtain ⟨a0, ha0, hbb⟩ := from_block a ha
      rw [hbb]; exact HB.out (by rw [List.length_drop] at hp; omega) a0 ha0
    obtain ⟨B1, hB1⟩ : ∃ B1, (if c = 0 then B else B.map (·.add (0 * 1))) = B1 := ⟨_, rfl⟩
    obtain ⟨B2, hB2⟩ : ∃ B2, (if c = m then B else B.map (·.add (m * 1))) = B2 := ⟨_, rfl⟩
    rw [hB1] at b1 h1
    rw [hB2] at b2 h2
    simp only [hB1] at hto
    simp only [hB2] at hfr
    have hnx : nx9 l m = l.take m := if_pos hin
    have haf : aft9 l m = l.drop m := if_pos hin
    have hnl : (l.take m).length = m := by rw [List.length_take]; omega
    have hdl : (l.drop m).length = l.length - m := by rw [List.length_drop]
    have hsd : (s || decide (l.length < m)) = s := by rw [decide_eq_false (by omega), Bool.or_false]
    rw [hnx, haf, hsd]
    have hg := only_store (only_refl w (some g)) (p := ⟨g, 0, none⟩) rfl (.slice B2 (l.length - m) (c - m))
    have hst := HH.out.stored 0 (.slice B2 (l.length - m) (c - m))
    have h1' := at8_row9 h1 b1 hg hlo
    have h2' := at8_row9 h2 b2 hg hlo
    have H1 := Lib.hid h1'
    have HU : Hid (UnR lo (w.setCell ⟨g, 0, none⟩ (.slice B2 (l.length - m) (c - m))) g (l.drop m) s) := Lib.hid ⟨B2, c - m, by rw [hdl]; exact hst, h2', by omega, b2⟩
    have HG := Lib.hid hg; have HB1 := Lib.hid b1; have HNL := Lib.hid hnl
    clear h1 h2 h1' h2' hst hg b1 b2 hnx haf hnl hdl hsd hB1 hB2 HB HS HH
    go_enter Try.func71, Try.ntmps71
    go_wp2
    go_ret
    exact ⟨B1, c, by rw [HNL.out]; rfl, H1, HB1, HU, HG⟩
  · have x1 : (l.length : Int) < (m : Int) := by omega
    have hnx : nx9 l m = [] := if_neg hin
    have haf : aft9 l m = l := if_neg hin
    have hsd : (s || decide (l.length < m)) = true := by rw [decide_eq_true (by omega), Bool.or_true]
    rw [hnx, haf, hsd]
    have hg := only_store (only_refl w (some g)) (p := ⟨g, 1, none⟩) rfl (.bool true)
    have HU : Hid (UnR lo (w.setCell ⟨g, 1, none⟩ (.bool true)) g l true) := Lib.hid ⟨B, c, HH.out.stored 1 (.bool true), at8_row9 HS.out HB.out hg hlo, hc, HB.out⟩
    have HG := Lib.hid hg
    clear hg hnx haf hsd HB HS HH
    go_enter Try.func71, Try.ntmps71
    go_wp2
    go_ret
    exact ⟨none, 0, rfl, Lib.hid (fun hp => absurd hp (by decide)), Lib.hid (fun _ a ha => by cases ha), HU, HG⟩

set_option maxRecDepth 100000 in
set_option maxHeartbeats 4000000 in
theorem opd_number (lo g m : Nat) (M : Int) (hM : M = (m : Nat)) (l : List Nat) (s : Bool) (w : World) (h : UnR lo w g l s) (hlo : lo ≤ g) (hm : m ≤ 8) (h8 : bytes8 l) :
    Calls Try.prog 69 #[.pointer (some ⟨g, 0, none⟩), .int .i64 M] w fun e w' => e = .returned (.int .u64 (val9 l m : Nat)) ∧ Hid (UnR lo w' g (aft9 l m) (s || decide (l.length < m))) ∧ Hid (w.grownBy w' (some g)) := by
  have HNX := Lib.hid (opd_next lo g m M hM l s w h hlo)
  have HBY := Lib.hid (nx9_8 h8 m)
  have hL := nx9_len l m
  unfold val9
  subst hM
  clear h
  go_enter Try.func69, Try.ntmps69
  go_wp2_with fail
  refine HNX.out.mono ?_
  rintro e w1 ⟨B, c, rfl, hs, hb, hu, hg⟩
  obtain ⟨ys, hys⟩ : ∃ ys, nx9 l m = ys := ⟨_, rfl⟩
  have HYS := Lib.hid hys
  rw [hys] at hs HBY hL ⊢
  clear hys
  obtain ⟨L, hLL⟩ : ∃ L, ys.length = L := ⟨_, rfl⟩
  have HL := Lib.hid hLL
  rw [hLL] at hL ⊢
  clear hLL HNX hb
  go_wp2
  go_loopg [5, 12] L (fun kk s5 s12 wr => ∃ t n : Nat, t ≤ L ∧ L - t ≤ kk ∧ s5 = .int .u64 (n : Nat) ∧ n = chunkT ys 0 t ∧ s12 = .int .i64 (t : Nat) ∧ wr = w1)
  case atStart => exact ⟨0, 0, by omega, by omega, rfl, rfl, rfl, rfl⟩
  case round =>
    obtain ⟨t, n, ht, htk, rfl, hnn, rfl, hww⟩ := hrel
    subst hww
    by_cases htl : t < L
    · have hn56 : n < 72057594037927936 := by rw [hnn]; exact chunkT_56 HBY.out 0 t (by omega)
      have hn1 : chunkT ys 0 (t + 1) = n * 256 + ys.getD t 0 := by rw [chunkT, ← hnn, Nat.zero_add]
      have hy8 := getD_lt HBY.out t
      have x0 : (t : Int) < (L : Int) := by omega
      have x1 : (0 : Int) ≤ (t : Int) := by omega
      have x2 : ((n : Int) * 256) % 18446744073709551616 = (n : Int) * 256 := by omega
      obtain ⟨b0, o0, rfl, f0⟩ := at8_at8 hs.out (j := t) (by have := HL.out; omega)
      clear hnn
      generalize ys.getD t 0 = v at *
      have ho : bits .or .u64 ((n : Int) * 256) (v : Int) = ((n * 256 + v : Nat) : Int) := by
        have p : (2 : Nat) ^ 8 = 256 := by decide
        have h := or_parts (a := n) (b := v) (k := 8) (by rw [p]; exact hy8)
        rw [p, Nat.mul_comm] at h
        have h2 := u64_or_nat (n * 256) v (by omega) (by omega)
        rw [h] at h2
        simp only [Int.natCast_mul, Int.cast_ofNat_Int] at h2
        exact h2
      have HN1 := Lib.hid hn1
      clear hn1
      go_wp2
      go_roundg (gk - 1)
      case measure => omega
      case rel => exact ⟨t + 1, n * 256 + v, by omega, by omega, by go_num, HN1.out.symm, by go_num, rfl⟩
    · obtain rfl : t = L := by omega
      have x0 : ¬ (t : Int) < (t : Int) := by omega
      have HNN := Lib.hid hnn
      clear hnn
      go_wp2
      go_ret
      exact ⟨by rw [HYS.out, HL.out, ← HNN.out]; rfl, hu, hg⟩

set_option maxRecDepth 100000 in
set_option maxHeartbeats 4000000 in
theorem opd_word (lo g : Nat) (l : List Nat) (s : Bool) (w : World) (h : UnR lo w g l s) (hlo : lo ≤ g) (h8 : bytes8 l) :
    Calls Try.prog 70 #[.pointer (some ⟨g, 0, none⟩)] w fun e w' => e = .returned (.int .u32 (val9 l 4 : Nat)) ∧ Hid (UnR lo w' g (aft9 l 4) (s || decide (l.length < 4))) ∧ Hid (w.grownBy w' (some g)) := by
  have HN := Lib.hid (opd_number lo g 4 4 rfl l s w h hlo (by decide) h8)
  have hv := val9_lt h8 4
  rw [pow256_4] at hv
  generalize val9 l 4 = v at *
  go_enter Try.func70, Try.ntmps70
  go_wp2_with fail
  refine HN.out.mono ?_
  rintro e w1 ⟨rfl, hu, hg⟩
  go_wp2
  go_ret
  exact ⟨rfl, hu, hg⟩
end Go.Proofs.Ytekcnmimfhiblaa
