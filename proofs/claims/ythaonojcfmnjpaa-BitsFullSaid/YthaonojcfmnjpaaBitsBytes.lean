/-
  (*bits.Writer).Len and Bytes.
-/
import Derived.Test.YthaonojcfmnjpaaBitsPut
import Derived.Test.YthaonojcfmnjpaaBytes8
namespace Go.Proofs.Ythaonojcfmnjpaa
open Go.RowKit
open BitsM

theorem len_none (w : World) : Calls Try.prog 13 #[.pointer none] w fun e w' => e = .returned (.int .i64 0) ∧ w = w' := by
  go_enter Try.func13, Try.ntmps13
  go_wp2
  go_ret
  exact ⟨rfl, rfl⟩
theorem len_any (g : Nat) (bs : List Bool) (w : World) (hw : IsW w g bs) :
    Calls Try.prog 13 #[.pointer (some ⟨g, 0, none⟩)] w fun e w' => e = .returned (.int .i64 bs.length) ∧ w = w' := by
  have hc : w.cell? ⟨g, 1023, none⟩ = some (.int .i64 bs.length) := by rw [hw.2.cell, wcells_held]
  go_enter Try.func13, Try.ntmps13
  go_wp2
  go_ret
  exact ⟨rfl, rfl⟩

/-- The bytes that a writer with these bits hands out. -/
def outBytes (bs : List Bool) : List Nat := (List.range ((bs.length + 7) / 8)).map (byteAt bs)
theorem outBytes_length (bs : List Bool) : (outBytes bs).length = (bs.length + 7) / 8 := by simp [outBytes]
theorem bytes_none (w : World) : Calls Try.prog 14 #[.pointer none] w fun e w' => e = .returned (.slice none 0 0) ∧ w = w' := by
  go_enter Try.func14, Try.ntmps14
  go_wp2
  go_ret
  exact ⟨rfl, rfl⟩

set_option maxHeartbeats 400000 in
theorem bytes_any (g : Nat) (bs : List Bool) (w : World) (hw : IsW w g bs) :
    Calls Try.prog 14 #[.pointer (some ⟨g, 0, none⟩)] w fun e w' =>
      e = .returned (.slice (some ⟨w.heap.size, 0, none⟩) (outBytes bs).length (outBytes bs).length) ∧ Has w' w.heap.size 5 (u8s (outBytes bs)).toArray ∧ Below w.heap.size w w' := by
  have hc : w.cell? ⟨g, 1023, none⟩ = some (.int .i64 bs.length) := by rw [hw.2.cell, wcells_held]
  have hl := hw.1
  obtain ⟨n, hn⟩ : ∃ n, n = (bs.length + 7) / 8 := ⟨_, rfl⟩
  have hmk : ∀ w, (Instr.makeSlice 36 (.int .i64 (((bs.length : Int) + 7) / 8)) (.int .i64 (((bs.length : Int) + 7) / 8))).run Try.prog w = .ok (.slice (some ⟨w.heap.size, 0, none⟩) n n) (w.alloc (.cells (madeCells #[.int .u8 0] n) 5)) := by
    intro w
    have h := run_make_row' (P := Try.prog) 36 5 (.int .u8 0) 1 Try.underlying36 info_u8 rfl .i64 .i64 n (by omega) (by omega) w
    have e : ((n : Nat) : Int) = ((bs.length : Int) + 7) / 8 := by omega
    rw [e] at h
    exact h
  have hlen : (outBytes bs).length = n := by rw [outBytes_length, hn]
  have hn2 : n ≤ 1023 := by omega
  have HM : Hid ((w.alloc (.cells (madeCells #[.int .u8 0] n) 5)).heap[w.heap.size]? = some (.cells (List.replicate n (.int .u8 0)).toArray 5 (0, 0))) := made_row w _ _ _
  have HC : Hid ((u8s (outBytes bs)).length = Nat.min 1023 n) := by
    show _ = min 1023 n
    rw [u8s_length, hlen]; omega
  have HF : Hid (0 + (u8s (outBytes bs)).length ≤ (List.replicate n (Value.int .u8 0)).length) := by
    show _ ≤ _
    rw [u8s_length, hlen]; simp
  have HP : Hid (0 < (u8s (outBytes bs)).length → (some ⟨w.heap.size, 0, none⟩ : Option Addr) = some ⟨w.heap.size, 0, none⟩ ∧ ∃ ad, (some ⟨g, 0, none⟩ : Option Addr) = some ad ∧
      ∀ j v, (u8s (outBytes bs))[j]? = some v → (w.alloc (.cells (madeCells #[.int .u8 0] n) 5)).cell? (ad.add j) = some v) := by
    intro _
    refine ⟨rfl, ⟨g, 0, none⟩, rfl, ?_⟩
    intro j v hv
    have hj : j < n := by
      have := (List.getElem?_eq_some_iff.1 hv).1
      rw [u8s_length, hlen] at this
      exact this
    have e : (⟨g, 0, none⟩ : Addr).add j = ⟨g, j, none⟩ := by unfold Addr.add; split <;> simp_all
    rw [e, (hw.2.beside _).cell, wcells_byte _ _ (by omega), ← hv]
    have hj' : j < (bs.length + 7) / 8 := by omega
    simp [u8s, outBytes, hj']
  have HN := Lib.hid hn; clear hn
  have HL := Lib.hid hlen; clear hlen
  have HW := Lib.hid hw; clear hw
  go_enter Try.func14, Try.ntmps14
  go_wp2_with (with_reducible refine wpList_copy_splice (o := ⟨some 18, _, _, _, _, _⟩) rfl (.tmp 13) (.tmp 17) 36 36 rfl 5 Try.underlying36 size_u8 (some ⟨w.heap.size, 0, none⟩) (some ⟨g, 0, none⟩) n n 1023 1023 ?hd ?hs w.heap.size 0 (List.replicate n (.int .u8 0)) 5 HM.out (u8s (outBytes bs)) HC.out HP.out HF.out (u8s_one _) w.heap.size w (Below.alloc (Below.refl _ _) (Nat.le_refl _) _) (Nat.le_refl _) ?next)
  case next =>
    intro w1 H1 hb1
    go_wp2
    go_ret
    have h1 := H1.out
    rw [splice_all _ _ (by rw [u8s_length, HL.out]; simp)] at h1
    rw [HL.out]
    exact ⟨rfl, h1, hb1⟩
end Go.Proofs.Ythaonojcfmnjpaa
