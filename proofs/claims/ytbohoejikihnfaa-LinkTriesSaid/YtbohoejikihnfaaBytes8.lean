/-
  Bytes in memory: a slice that holds some bytes; the text that they are; an argument of bytes.
-/
import Derived.Test.YtbohoejikihnfaaOpen

import Derived.Laws.CopyOwn

import Derived.Deep.OwnRows

import Derived.Laws.BytesArg

import Derived.Lib.ConvBytes

namespace Go.Proofs.Ytbohoejikihnfaa

open Go.RowKit Go.ChangeAt

def u8s (l : List Nat) : List Value := l.map fun (n : Nat) => Value.int .u8 (n : Int)
theorem u8s_length (l : List Nat) : (u8s l).length = l.length := by simp [u8s]

theorem u8s_one (l : List Nat) : ∀ v ∈ u8s l, v.oneCell' = true := by
  intro v hv
  simp only [u8s, List.mem_map] at hv
  obtain ⟨n, _, rfl⟩ := hv
  rfl
theorem made_row (w : World) (z : Value) (n : Nat) (t : TypeId) : Has (w.alloc (.cells (madeCells #[z] n) t)) w.heap.size t (List.replicate n z).toArray := by
  have e : madeCells #[z] n = (List.replicate n z).toArray := by
    apply Array.toList_inj.1
    rw [toList_madeCells_one]
  rw [e]
  exact Has.made w t _
theorem splice_all {α : Type} (L cs : List α) (h : cs.length = L.length) : splice L 0 cs = cs := by
  simp [splice, h]

theorem info_u8 : (Try.prog.info? 5).map (fun i => (i.zero, i.size, i.bytes)) = some (some (.int .u8 0), 1, 1) := by kernel_rfl
theorem size_u8 : (Try.prog.info? 5).map (·.size) = some 1 := by kernel_rfl

/-- The slice's array holds the bytes xs, wherever it lies. -/
def At8 (w : World) (A : Option Addr) (xs : List Nat) : Prop := 0 < xs.length → ∃ ad, A = some ad ∧ ∀ j v, (u8s xs)[j]? = some v → w.cell? (ad.add j) = some v

theorem At8.of_has {w : World} {g : Nat} {xs : List Nat} (h : Has w g 5 (u8s xs).toArray) : At8 w (some ⟨g, 0, none⟩) xs := by
  intro _
  refine ⟨⟨g, 0, none⟩, rfl, fun j v hv => ?_⟩
  have e : (⟨g, 0, none⟩ : Addr).add j = ⟨g, j, none⟩ := by unfold Addr.add; split <;> simp_all
  rw [e, h.cell]
  simpa using hv

theorem at8_alloc {w : World} {A : Option Addr} {xs : List Nat} (h : At8 w A xs) (o : Obj) : At8 (w.alloc o) A xs := by
  intro hpos
  obtain ⟨ad, e, hc⟩ := h hpos
  refine ⟨ad, e, fun j v hv => ?_⟩
  have := hc j v hv
  have hlt : (ad.add j).block < w.heap.size := by
    rcases Nat.lt_or_ge (ad.add j).block w.heap.size with h1 | h1
    · exact h1
    · exfalso
      have hn : w.heap[(ad.add j).block]? = none := Array.getElem?_eq_none h1
      simp [World.cell?, hn] at this
  rw [World.cell?_alloc_lt w o _ hlt]
  exact this

/-- The text that some bytes are. -/
def str8 (xs : List Nat) : ByteArray := ⟨(xs.map fun n => UInt8.ofNat n).toArray⟩
theorem conv8 (A : Option Addr) (c : Nat) (xs : List Nat) (w : World) (h : At8 w A xs) :
    (convert 25 9 (.slice A xs.length c)).run Try.prog w = .ok (.string (str8 xs)) w := by
  cases xs with
  | nil =>
    show (convert 25 9 (.slice A 0 c)).run Try.prog w = _
    rw [run_convert_bytes_string w 25 9 5 A 0 c Try.underlying25 Try.underlying5 Try.underlying9]
    cases A with
    | none => simp [Conv.bytesToString, str8]; rfl
    | some a => rw [run_bytesToString w a 0 c [] (by simpa using run_loadCells_list (P := Try.prog) w a [] (fun j v hj => by simp at hj))]; rfl
  | cons x r =>
    obtain ⟨ad, rfl, hc⟩ := h (by simp)
    have hl := run_loadCells_list (P := Try.prog) w ad ((((x :: r).map fun (n : Nat) => (n : Int))).map (Value.int .u8)) (fun j v hj => hc j v (by simpa [u8s, Function.comp_def] using hj))
    rw [run_convert_bytes_string w 25 9 5 _ _ c Try.underlying25 Try.underlying5 Try.underlying9]
    rw [run_bytesToString w ad _ c ((x :: r).map fun (n : Nat) => (n : Int)) (by simpa using hl), foldl_push_bytes]
    simp [str8]

theorem str8_size (xs : List Nat) : (str8 xs).size = xs.length := by simp [str8, ByteArray.size]
theorem back8 (xs : List Nat) (W : World) :
    (convert 9 25 (.string (str8 xs))).run Try.prog W = .ok (.slice (some ⟨W.heap.size, 0, none⟩) xs.length (grownCap W xs.length 0 5)) (Lib.bytesWorld W 5 (str8 xs)) := by
  rw [Lib.run_convert_string_bytes W 9 25 5 (str8 xs) Try.underlying9 Try.underlying25 Try.underlying5, str8_size]
theorem below_back8 (xs : List Nat) (W : World) : Below W.heap.size W (Lib.bytesWorld W 5 (str8 xs)) :=
  ⟨rfl, rfl, rfl, by rw [Lib.bytesWorld_size]; omega, fun k hk => Lib.bytesWorld_at_old W _ _ k hk⟩
theorem at8_back8 (xs : List Nat) (hb : ∀ x ∈ xs, x < 256) (W : World) : At8 (Lib.bytesWorld W 5 (str8 xs)) (some ⟨W.heap.size, 0, none⟩) xs := by
  intro _
  refine ⟨_, rfl, fun j v hv => ?_⟩
  have hj : j < xs.length := by
    have := (List.getElem?_eq_some_iff.1 hv).1
    rwa [u8s_length] at this
  have e : (⟨W.heap.size, 0, none⟩ : Addr).add j = ⟨W.heap.size, j, none⟩ := by unfold Addr.add; split <;> simp_all
  rw [e, Lib.bytesWorld_cell W _ _ j (by rw [str8_size]; exact hj), ← hv]
  have hx := hb xs[j] (List.getElem_mem _)
  simp [str8, u8s, hj]
  omega

/-- An argument of n bytes. -/
def InBytes (w : World) (A : Option Addr) (n : Nat) (xs : List Nat) : Prop := xs.length = n ∧ n ≤ maxLen ∧ At8 w A xs ∧ ∀ x ∈ xs, x < 256
theorem InInts.bytes {w : World} {A : Option Addr} {n : Nat} {zs : List Int} (h : InInts .u8 w A n zs) : InBytes w A n (zs.map Int.toNat) := by
  obtain ⟨hl, hm, hc, hwz⟩ := h
  have hb : ∀ z ∈ zs, 0 ≤ z ∧ z ≤ 255 := fun z hz => by have := hwz z hz; simpa [Lit.wf, IntKind.min, IntKind.max, IntKind.signed, IntKind.bits] using this
  refine ⟨by simpa using hl, hm, fun hpos => ?_, fun x hx => ?_⟩
  · obtain ⟨ad, e, hcell⟩ := hc (by simp at hpos; omega)
    refine ⟨ad, e, fun j v hv => ?_⟩
    have hj : j < n := by
      have := (List.getElem?_eq_some_iff.1 hv).1
      simp [u8s] at this
      omega
    have hj' : j < zs.length := by omega
    rw [hcell j hj, ← hv]
    have := hb zs[j] (List.getElem_mem _)
    simp [u8s, List.getD_eq_getElem?_getD, hj']
    omega
  · simp only [List.mem_map] at hx
    obtain ⟨z, hz, rfl⟩ := hx
    have := hb z hz
    omega

end Go.Proofs.Ytbohoejikihnfaa
