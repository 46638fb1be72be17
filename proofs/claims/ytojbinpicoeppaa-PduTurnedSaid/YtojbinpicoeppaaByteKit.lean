/-
  Bytes: small words of our own.
-/
import Derived.Test.YtojbinpicoeppaaMcMath
import Derived.Test.YtojbinpicoeppaaBytes8
import Derived.Laws.OwnMore
import Derived.Laws.BitsAllLaws
namespace Go.Proofs.Ytojbinpicoeppaa
open Go.RowKit

theorem xor8 {a b : Nat} (ha : a < 256) (hb : b < 256) : a ^^^ b < 256 := Nat.xor_lt_two_pow (n := 8) ha hb
theorem u8s_set (l : List Nat) (i v : Nat) : u8s (l.set i v) = (u8s l).set i (.int .u8 (v : Nat)) := by simp [u8s, List.map_set]
theorem xor8i {p q : Nat} (hp : p < 256) (hq : q < 256) : bits .xor .u8 (p : Int) (q : Int) = ((p ^^^ q : Nat) : Int) := u8_xor_nat p q hp hq
theorem str8_beq {a b : List Nat} (ha : bytes8 a) (hb : bytes8 b) : ((str8 a).toList == (str8 b).toList) = decide (a = b) := by
  rw [ByteArray.toList_eq, ByteArray.toList_eq]
  have hi : (str8 a).data.toList = (str8 b).data.toList ↔ a = b := by
    refine ⟨fun h => ?_, fun h => by rw [h]⟩
    have hm : ∀ l : List Nat, bytes8 l → ((str8 l).data.toList.map fun u => u.toNat) = l := fun l hl => by
      simp only [str8, List.map_map]
      conv => rhs; rw [← List.map_id l]
      exact List.map_congr_left fun x hx => by have := hl x hx; simp; omega
    rw [← hm a ha, ← hm b hb, h]
  by_cases h : a = b
  · simp [h]
  · rw [decide_eq_false h, beq_eq_false_iff_ne]; exact fun e => h (hi.1 e)
theorem below_own0 {w w' : World} (h : w.grownBy w' (Value.slice none 0 0).ownBlock) : Below w.heap.size w w' :=
  ⟨h.os, h.tape, h.output, h.size, fun k hk => h.block k hk (by simp [Value.ownBlock])⟩
theorem own_first {w : World} {base : Nat} {e : TypeId} {size n c : Nat} {A : Option Addr} {xs : List Value} (h : w.ownsRow base e size (.slice A n c) n xs) (hn : 0 < n) : ∃ g, A = some ⟨g, 0, none⟩ ∧ base ≤ g := by
  rcases h.2 with ⟨e1, e2⟩ | ⟨g, cap, cur, e1, hb, _⟩
  · omega
  · injection e1 with e1
    exact ⟨g, e1, hb⟩
theorem u8s_at (l : List Nat) {i : Nat} (h : i < l.length) : (u8s l)[i]? = some (.int .u8 (l.getD i 0 : Nat)) := by
  simp [u8s, List.getD_eq_getElem?_getD, h]
theorem at8_own {w : World} {base c : Nat} {A : Option Addr} {xs : List Nat} (h : w.ownsRow base 5 1 (.slice A xs.length c) xs.length (u8s xs)) : At8 w A xs := by
  intro hp
  obtain ⟨g, rfl, _⟩ := own_first h hp
  exact ⟨_, rfl, fun j v hv => (Sl.of_own h).2.2 _ rfl j v hv⟩
theorem sl_bytes {w : World} {A : Option Addr} {c : Nat} {xs : List Nat} (h : At8 w A xs) (hn : A = none → c = 0) : Sl w 1 A xs.length c (u8s xs) := by
  refine ⟨by simp [u8s_length], fun ha => ?_, fun ad ha j u hu => ?_⟩
  · refine ⟨?_, hn ha⟩
    rcases Nat.eq_zero_or_pos xs.length with h0 | h0
    · exact h0
    · obtain ⟨ad, e, _⟩ := h h0
      rw [ha] at e; cases e
  · have hj := (List.getElem?_eq_some_iff.1 hu).1
    rw [u8s_length] at hj
    obtain ⟨ad', e, hc⟩ := h (by omega)
    rw [ha] at e; cases e
    exact hc j u hu

theorem u8s_app (a b : List Nat) : u8s (a ++ b) = u8s a ++ u8s b := by simp [u8s]
theorem u8s_zeros (m : Nat) : u8s (List.replicate m 0) = List.replicate m (.int .u8 0) := by simp [u8s]
theorem bytes8_app {a b : List Nat} (ha : bytes8 a) (hb : bytes8 b) : bytes8 (a ++ b) := by
  intro x hx
  rcases List.mem_append.1 hx with h | h
  · exact ha x h
  · exact hb x h
theorem bytes8_zeros (m : Nat) : bytes8 (List.replicate m 0) := by
  intro x hx
  rw [List.eq_of_mem_replicate hx]; decide
end Go.Proofs.Ytojbinpicoeppaa
