/-
  linesideref09.Decode of no bytes; of any bytes.
-/
import Derived.Test.YtojbinpicoeppaaPdSame
namespace Go.Proofs.Ytojbinpicoeppaa
open Go.RowKit
open Go.Great

set_option maxRecDepth 100000 in
set_option maxHeartbeats 4000000 in
theorem ref_decode0 (A : Option Addr) (c : Nat) (w : World) :
    Calls Try.prog 17 #[.slice A 0 c] w fun e w' => e = .returned (.tuple #[pdV pdZero none 0, .int .i64 8]) ∧ Below w.heap.size w w' := by
  obtain ⟨wa, hwa⟩ : ∃ wa, w.alloc (.cells #[.int .i64 0, .int .i64 0, .int .i64 0, .int .u32 0, .int .u32 0, .slice none 0 0, .int .u64 0] 26) = wa := ⟨_, rfl⟩
  have HB : Hid (Below w.heap.size w wa) := Lib.hid (by rw [← hwa]; exact (Below.refl _ _).alloc (Nat.le_refl _) _)
  have HE : Hid (wa.heap[w.heap.size]? = some (.cells #[.int .i64 0, .int .i64 0, .int .i64 0, .int .u32 0, .int .u32 0, .slice none 0 0, .int .u64 0] 26 (0, 0))) := Lib.hid (by rw [← hwa]; exact Has.made _ _ _)
  have HF := Lib.hid (has_setRow7 HE.out #[.int .i64 0, .int .i64 0, .int .i64 0, .int .u32 0, .int .u32 0, .slice none 0 0, .int .u64 0])
  have HBF := Lib.hid (below_row (g := w.heap.size) HB.out (Nat.le_refl _) #[.int .i64 0, .int .i64 0, .int .i64 0, .int .u32 0, .int .u32 0, .slice none 0 0, .int .u64 0])
  have HWA := Lib.hid hwa
  clear hwa
  go_enter Try.func17, Try.ntmps17
  go_upto_region 1 with fail
  rw [HWA.out]
  go_wp2_with (with_reducible refine wpList_store_rowTo (o := ⟨none, _, _, _, _, _⟩) rfl 26 _ _ rfl rfl w.heap.size #[.int .i64 0, .int .i64 0, .int .i64 0, .int .u32 0, .int .u32 0, .slice none 0 0, .int .u64 0] rfl rfl 26 _ HE.out (by kernel_rfl) (by kernel_rfl) (by kernel_rfl) ?_)
  refine bodyPost_ret (results_row_tmp9 rfl _ _ w.heap.size 26 _ _ rfl HF.out Try.underlying26 rfl (by kernel_rfl)) rfl ?_
  exact ⟨rfl, HBF.out⟩
theorem enc_len {p : Pdu} (hm : pdMay p) : (pdEnc p).length ≤ 2000 := by
  have h := text_len hm
  have e : pdEnc p = pdText p ++ (if 1 < p.kind then beB p.mac 8 else []) := by unfold pdEnc pdEncV pdText; rw [if_pos hm, if_pos hm]
  rw [e, List.length_append]
  split
  · rw [be_len]; omega
  · simp; omega
theorem dec_nil : pdDec [] = none := by simp [pdDec]
/-- What Decode's call says. -/
def DecPost (xs : List Nat) (w : World) (e : Ending) (w' : World) : Prop :=
  ∃ p A' c' err, e = .returned (.tuple #[pdV p A' c', .int .i64 err]) ∧ DecAns xs p err ∧ Hid (Sl w' 1 A' p.body.length c' (u8s p.body)) ∧ Hid (∀ a, A' = some a → w.heap.size < a.block) ∧ Hid (Below w.heap.size w w')
theorem ref_decode_any (A : Option Addr) (c : Nat) (xs : List Nat) (w : World) (ha : At8 w A xs) (hb : bytes8 xs) (hn : xs.length ≤ 2000) (hcap : xs.length ≤ c) :
    Calls Try.prog 17 #[.slice A xs.length c] w (DecPost xs w) := by
  by_cases h1 : 1 ≤ xs.length
  · exact ref_decode A c xs w ha hb hn hcap h1
  · have h0 : xs = [] := List.eq_nil_of_length_eq_zero (by omega)
    subst h0
    exact (ref_decode0 A c w).mono fun e w' h => ⟨pdZero, none, 0, 8, h.1, .inr ⟨dec_nil, rfl, rfl⟩, Lib.hid (sl_nil _ _), Lib.hid (fun a ha => by cases ha), Lib.hid h.2⟩
/-- What the program's Decode says: the body may lie among the bytes that were handed in. -/
def DecPostA (A : Option Addr) (xs : List Nat) (w : World) (e : Ending) (w' : World) : Prop :=
  ∃ p A' c' err, e = .returned (.tuple #[pdV p A' c', .int .i64 err]) ∧ DecAns xs p err ∧ Hid (Sl w' 1 A' p.body.length c' (u8s p.body)) ∧ Hid (∀ a, A' = some a → w.heap.size ≤ a.block ∨ ∃ a0, A = some a0 ∧ a.block = a0.block) ∧ Hid (Below w.heap.size w w')
def EncPost (l : List Nat) (code : Int) (w : World) (e : Ending) (w' : World) : Prop :=
  ∃ A' c', e = .returned (.tuple #[.slice A' l.length c', .int .i64 code]) ∧ Hid (w'.ownsRow w.heap.size 5 1 (.slice A' l.length c') l.length (u8s l)) ∧ Hid (Below w.heap.size w w')
def TextPost (l : List Nat) (w : World) (e : Ending) (w' : World) : Prop :=
  ∃ A' c', e = .returned (.slice A' l.length c') ∧ Hid (w'.ownsRow w.heap.size 5 1 (.slice A' l.length c') l.length (u8s l)) ∧ Hid (Below w.heap.size w w')
end Go.Proofs.Ytojbinpicoeppaa
