/-
  MsTable, MsBytes, MsPure, MsTheory, MsGet, MsDigits: merged.
-/
import Derived.Test.YtamnhnleipnhdaaDoorMgE
import Derived.Test.YtamnhnleipnhdaaDoorMgF
import Derived.Test.YtamnhnleipnhdaaDoorMgC
import Derived.Test.YtamnhnleipnhdaaDoorMgA
import Derived.Test.YtamnhnleipnhdaaDoorMgD
import Derived.Deep.RegionHeld3
import Derived.BigQuiet
import Derived.Deep.QuietTactic

/-
  The chapter's table of messages: its rows as texts, and as what they stand for.
-/
namespace Go.Proofs.YtamnhnleipnhdaaDoor

open Go.RowKit

open BitsM

/-- A row: its number, its own variables, what it must have, what it may have; the same as numbers (0: nothing, 1: packet 15, 2: packet 0 or 1). -/
structure MRow where
  id : Int
  own : ByteArray
  must : ByteArray
  may : ByteArray
  ownV : List Nat
  kd : Nat
  mayL : List Int
def mnone : MRow := ⟨-1, ⟨#[]⟩, ⟨#[]⟩, ⟨#[]⟩, [], 0, []⟩
def mrows : List MRow := [
  ⟨2, ⟨#[81, 95, 83, 67, 65, 76, 69, 32, 68, 95, 83, 82]⟩, ⟨#[]⟩, ⟨#[]⟩, [8, 95], 0, []⟩,
  ⟨3, ⟨#[]⟩, ⟨#[49, 53]⟩, ⟨#[51, 32, 53, 32, 50, 49, 32, 50, 55, 32, 53, 55, 32, 53, 56, 32, 56, 48]⟩, [], 1, [3, 5, 21, 27, 57, 58, 80]⟩,
  ⟨8, ⟨#[84, 95, 84, 82, 65, 73, 78]⟩, ⟨#[]⟩, ⟨#[]⟩, [2], 0, []⟩,
  ⟨9, ⟨#[]⟩, ⟨#[49, 53]⟩, ⟨#[53, 32, 56, 48]⟩, [], 1, [5, 80]⟩,
  ⟨15, ⟨#[78, 73, 68, 95, 69, 77, 32, 81, 95, 83, 67, 65, 76, 69, 32, 81, 95, 68, 73, 82, 32, 68, 95, 82, 69, 70, 32, 68, 95, 69, 77, 69, 82, 71, 69, 78, 67, 89, 83, 84, 79, 80]⟩, ⟨#[]⟩, ⟨#[]⟩, [88, 8, 6, 89, 90], 0, []⟩,
  ⟨16, ⟨#[78, 73, 68, 95, 69, 77]⟩, ⟨#[]⟩, ⟨#[]⟩, [88], 0, []⟩,
  ⟨18, ⟨#[78, 73, 68, 95, 69, 77]⟩, ⟨#[]⟩, ⟨#[]⟩, [88], 0, []⟩,
  ⟨24, ⟨#[]⟩, ⟨#[]⟩, ⟨#[51, 32, 53, 32, 50, 49, 32, 50, 55, 32, 52, 50, 32, 53, 55, 32, 53, 56]⟩, [], 0, [3, 5, 21, 27, 42, 57, 58]⟩,
  ⟨32, ⟨#[77, 95, 86, 69, 82, 83, 73, 79, 78]⟩, ⟨#[]⟩, ⟨#[]⟩, [92], 0, []⟩,
  ⟨33, ⟨#[81, 95, 83, 67, 65, 76, 69, 32, 68, 95, 82, 69, 70]⟩, ⟨#[49, 53]⟩, ⟨#[53, 32, 50, 49, 32, 50, 55, 32, 56, 48]⟩, [8, 89], 1, [5, 21, 27, 80]⟩,
  ⟨34, ⟨#[81, 95, 83, 67, 65, 76, 69, 32, 68, 95, 82, 69, 70, 32, 81, 95, 68, 73, 82, 32, 68, 95, 76, 79, 67, 32, 76, 95, 83, 69, 67, 84, 73, 79, 78]⟩, ⟨#[]⟩, ⟨#[]⟩, [8, 89, 6, 72, 28], 0, []⟩,
  ⟨38, ⟨#[]⟩, ⟨#[]⟩, ⟨#[]⟩, [], 0, []⟩,
  ⟨39, ⟨#[]⟩, ⟨#[]⟩, ⟨#[]⟩, [], 0, []⟩,
  ⟨40, ⟨#[]⟩, ⟨#[]⟩, ⟨#[]⟩, [], 0, []⟩,
  ⟨41, ⟨#[]⟩, ⟨#[]⟩, ⟨#[]⟩, [], 0, []⟩,
  ⟨43, ⟨#[]⟩, ⟨#[]⟩, ⟨#[]⟩, [], 0, []⟩,
  ⟨129, ⟨#[]⟩, ⟨#[82, 69, 80, 79, 82, 84]⟩, ⟨#[49, 49]⟩, [], 2, [11]⟩,
  ⟨130, ⟨#[]⟩, ⟨#[82, 69, 80, 79, 82, 84]⟩, ⟨#[]⟩, [], 2, []⟩,
  ⟨132, ⟨#[81, 95, 77, 65, 82, 81, 83, 84, 82, 69, 65, 83, 79, 78]⟩, ⟨#[82, 69, 80, 79, 82, 84]⟩, ⟨#[]⟩, [94], 2, []⟩,
  ⟨136, ⟨#[]⟩, ⟨#[82, 69, 80, 79, 82, 84]⟩, ⟨#[]⟩, [], 2, []⟩,
  ⟨137, ⟨#[84, 95, 84, 82, 65, 73, 78]⟩, ⟨#[]⟩, ⟨#[]⟩, [2], 0, []⟩,
  ⟨138, ⟨#[84, 95, 84, 82, 65, 73, 78]⟩, ⟨#[]⟩, ⟨#[]⟩, [2], 0, []⟩,
  ⟨146, ⟨#[84, 95, 84, 82, 65, 73, 78]⟩, ⟨#[]⟩, ⟨#[]⟩, [2], 0, []⟩,
  ⟨147, ⟨#[78, 73, 68, 95, 69, 77, 32, 81, 95, 69, 77, 69, 82, 71, 69, 78, 67, 89, 83, 84, 79, 80]⟩, ⟨#[82, 69, 80, 79, 82, 84]⟩, ⟨#[]⟩, [88, 91], 2, []⟩,
  ⟨149, ⟨#[]⟩, ⟨#[82, 69, 80, 79, 82, 84]⟩, ⟨#[]⟩, [], 2, []⟩,
  ⟨150, ⟨#[]⟩, ⟨#[82, 69, 80, 79, 82, 84]⟩, ⟨#[]⟩, [], 2, []⟩,
  ⟨155, ⟨#[]⟩, ⟨#[]⟩, ⟨#[]⟩, [], 0, []⟩,
  ⟨156, ⟨#[]⟩, ⟨#[]⟩, ⟨#[]⟩, [], 0, []⟩,
  ⟨157, ⟨#[81, 95, 83, 84, 65, 84, 85, 83]⟩, ⟨#[82, 69, 80, 79, 82, 84]⟩, ⟨#[]⟩, [93], 2, []⟩,
  ⟨159, ⟨#[]⟩, ⟨#[]⟩, ⟨#[]⟩, [], 0, []⟩]
def mrow (id : Int) : MRow := (mrows.find? fun r => decide (r.id = id)).getD mnone
def mknown (id : Int) : Bool := mrows.any fun r => decide (r.id = id)
def mup (id : Int) : Bool := mknown id && (decide (129 ≤ id) && decide (id ≤ 159))
theorem mknown_cases {id : Int} (h : mknown id = true) : id = 2 ∨ id = 3 ∨ id = 8 ∨ id = 9 ∨ id = 15 ∨ id = 16 ∨ id = 18 ∨ id = 24 ∨ id = 32 ∨ id = 33 ∨ id = 34 ∨ id = 38 ∨ id = 39 ∨ id = 40 ∨ id = 41 ∨ id = 43 ∨ id = 129 ∨ id = 130 ∨ id = 132 ∨ id = 136 ∨ id = 137 ∨ id = 138 ∨ id = 146 ∨ id = 147 ∨ id = 149 ∨ id = 150 ∨ id = 155 ∨ id = 156 ∨ id = 157 ∨ id = 159 := by
  simp [mknown, mrows] at h
  omega

/-- A number from 0 to 99 as a text. -/
def digitsB (n : Int) : ByteArray := if 9 < n then ⟨#[UInt8.ofNat (48 + n / 10).toNat, UInt8.ofNat (48 + n % 10).toNat]⟩ else ⟨#[UInt8.ofNat (48 + n).toNat]⟩
def undig (b : ByteArray) : Int := if b.size = 2 then 10 * ((b.data.getD 0 0).toNat - 48) + ((b.data.getD 1 0).toNat - 48) else (b.data.getD 0 0).toNat - 48
theorem undig_digits (n : Int) (h0 : 0 ≤ n) (h1 : n < 100) : undig (digitsB n) = n := by
  have h := List.all_eq_true.1 (show (List.range 100).all (fun n => decide (undig (digitsB (n : Int)) = (n : Int))) = true from by kernel_rfl) n.toNat (List.mem_range.2 (by omega))
  have h := of_decide_eq_true h
  rwa [Int.toNat_of_nonneg h0] at h
def amongB (id : Int) (s : ByteArray) : Bool := decide (0 ≤ id) && decide (id < 100) && (wordsOf s).any fun x => decide (x = digitsB id)
theorem among_list {s : ByteArray} {L : List Int} (h : wordsOf s = L.map digitsB) (hL : L.all (fun x => decide (0 ≤ x) && decide (x < 100)) = true) (id : Int) : amongB id s = decide (id ∈ L) := by
  rw [amongB, h, List.any_map]
  rw [List.all_eq_true] at hL
  by_cases hm : id ∈ L
  · have hx := hL id hm
    simp only [Bool.and_eq_true, decide_eq_true_eq] at hx
    rw [decide_eq_true hm, decide_eq_true hx.1, decide_eq_true hx.2, Bool.true_and, Bool.true_and, List.any_eq_true]
    exact ⟨id, hm, by simp⟩
  · rw [decide_eq_false hm]
    by_cases hr : 0 ≤ id ∧ id < 100
    · rw [decide_eq_true hr.1, decide_eq_true hr.2, Bool.true_and, Bool.true_and, List.any_eq_false]
      intro x hx
      have hxx := hL x hx
      simp only [Bool.and_eq_true, decide_eq_true_eq] at hxx
      simp only [Function.comp_apply, decide_eq_true_eq]
      intro e
      have e2 := congrArg undig e
      rw [undig_digits x hxx.1 hxx.2, undig_digits id hr.1 hr.2] at e2
      subst e2
      exact hm hx
    · by_cases h0 : 0 ≤ id
      · rw [decide_eq_false (show ¬ id < 100 from fun k => hr ⟨h0, k⟩)]; simp
      · rw [decide_eq_false h0]; rfl

/-- What is asked of a row. -/
structure MShape (id : Int) : Prop where
  low : 0 ≤ id ∧ id < 160
  own : (wordsOf (mrow id).own).map findOf = (mrow id).ownV.map (fun (v : Nat) => (v : Int))
  ownS : (mrow id).own.size ≤ 65536
  ownR : (mrow id).ownV.all (fun v => decide (v < 96)) = true
  ownN : (mrow id).ownV.length ≤ 5
  may : wordsOf (mrow id).may = (mrow id).mayL.map digitsB
  mayR : (mrow id).mayL.all (fun x => decide (0 ≤ x) && decide (x < 100) && decide (upB x = mup id)) = true
  mayS : (mrow id).may.size ≤ 65536
  must : (mrow id).must = if (mrow id).kd = 0 then ⟨#[]⟩ else if (mrow id).kd = 1 then ⟨#[49, 53]⟩ else ⟨#[82, 69, 80, 79, 82, 84]⟩
  kd : ((mrow id).kd = 0 ∨ (mrow id).kd = 1 ∨ (mrow id).kd = 2) ∧ ((mrow id).kd = 1 → mup id = false) ∧ ((mrow id).kd = 2 → mup id = true)
set_option maxHeartbeats 4000000 in
theorem mshape {id : Int} (h : mknown id = true) : MShape id := by
  rcases mknown_cases h with rfl | rfl | rfl | rfl | rfl | rfl | rfl | rfl | rfl | rfl | rfl | rfl | rfl | rfl | rfl | rfl | rfl | rfl | rfl | rfl | rfl | rfl | rfl | rfl | rfl | rfl | rfl | rfl | rfl | rfl
  all_goals exact ⟨by decide, by kernel_rfl, Nat.le_of_ble_eq_true (by kernel_rfl), by kernel_rfl, Nat.le_of_ble_eq_true (by kernel_rfl), by kernel_rfl, by kernel_rfl, Nat.le_of_ble_eq_true (by kernel_rfl), by kernel_rfl, of_decide_eq_true (by kernel_rfl)⟩

def mustB (k : Nat) (p : Int) : Bool := if k = 1 then decide (p = 15) else decide (p = 0) || decide (p = 1)
def restB (L : List Int) (ids : List Int) : Bool := ids.all (fun x => decide (x ∈ L)) && decide ids.Nodup
/-- Are packets of these numbers as the row says? -/
def fitsF (id : Int) (ids : List Int) : Bool :=
  if (mrow id).kd = 0 then restB (mrow id).mayL ids else match ids with
    | [] => false
    | a :: l => mustB (mrow id).kd a && restB (mrow id).mayL l
end Go.Proofs.YtamnhnleipnhdaaDoor

/-
  The bytes that bits are.
-/
namespace Go.Proofs.YtamnhnleipnhdaaDoor

open Go.RowKit

open BitsM

def bytesOf (bs : List Bool) : List Nat := (List.range ((bs.length + 7) / 8)).map (byteAt bs)
theorem bytesOf_length (bs : List Bool) : (bytesOf bs).length = (bs.length + 7) / 8 := by simp [bytesOf]
theorem bytesOf_lt (bs : List Bool) : ∀ x ∈ bytesOf bs, x < 256 := by
  intro x hx
  simp only [bytesOf, List.mem_map] at hx
  obtain ⟨i, _, rfl⟩ := hx
  exact byteAt_lt bs i
theorem bits_bytes (bs : List Bool) : bitsOf (bytesOf bs) = bs ++ List.replicate (8 * ((bs.length + 7) / 8) - bs.length) false := by
  apply List.ext_getElem
  · rw [bitsOf_length, bytesOf_length, List.length_append, List.length_replicate]; omega
  intro p h1 h2
  rw [bitsOf_length, bytesOf_length] at h1
  have e1 : (bitsOf (bytesOf bs))[p]'(by rw [bitsOf_length, bytesOf_length]; exact h1) = bitAt (bytesOf bs) p := by simp [bitsOf, bitsFrom]
  have e2 : (bytesOf bs).getD (p / 8) 0 = byteAt bs (p / 8) := by
    have hq : p / 8 < (bytesOf bs).length := by rw [bytesOf_length]; omega
    rw [List.getD_eq_getElem?_getD, List.getElem?_eq_getElem hq]
    simp [bytesOf]
  rw [e1, bitAt, e2, byteAt_testBit, decide_eq_true (by omega), Bool.true_and, show 8 * (p / 8) + (7 - (7 - p % 8)) = p by omega, List.getD_eq_getElem?_getD]
  by_cases hp : p < bs.length
  · rw [List.getElem_append_left hp, List.getElem?_eq_getElem hp]; rfl
  · rw [List.getElem?_eq_none (by omega), List.getElem_append_right (by omega), List.getElem_replicate]; rfl
theorem at8_own {base : Nat} {w : World} {A : Option Addr} {n c : Nat} {xs : List Nat} (h : w.ownsRow base 5 1 (.slice A n c) n (u8s xs)) (hn : xs.length = n) : At8 w A xs := by
  intro h0
  have hs := Sl.of_own h
  cases A with
  | none => have := (hs.2.1 rfl).1; omega
  | some ad => exact ⟨ad, rfl, fun j v hv => hs.2.2 ad rfl j v hv⟩
end Go.Proofs.YtamnhnleipnhdaaDoor

/-
  What Encode and Decode of messages answer.
-/
namespace Go.Proofs.YtamnhnleipnhdaaDoor

open Go.RowKit

open BitsM

structure Msg where
  id : Int
  t : Int
  ack : Int
  of_ : Int
  V : List Int
  P : List (Int × List Int)
def mzero : Msg := ⟨0, 0, 0, 0, [], []⟩

def baseV (id : Int) : List Nat := if mup id = true then [2, 9] else [2, 3, 4]
def mvars (id : Int) : List Nat := baseV id ++ (mrow id).ownV
def mvals (m : Msg) : List Int := (if mup m.id = true then [m.t, m.of_] else [m.t, m.ack, m.of_]) ++ m.V
def pairsOf (L : List Nat) (N : List Int) : List (Int × Int) := (L.zip N).map fun x => (x.2, (widthOf x.1 : Int))
def maysOf (L : List Nat) (N : List Int) : Bool := (L.zip N).all fun x => mayOf x.1 x.2

def packsF : List (Int × List Int) → List (Int × Int) × Int
  | [] => ([], 0)
  | p :: l => if (itemsF p.1 p.2).2 ≠ 0 then ([], (itemsF p.1 p.2).2) else if (packsF l).2 ≠ 0 then ([], (packsF l).2) else ((itemsF p.1 p.2).1 ++ (packsF l).1, 0)

def allP (m : Msg) (n : Int) : List (Int × Int) := (m.id, 8) :: (n, 10) :: (pairsOf (mvars m.id) (mvals m) ++ (packsF m.P).1)
def bytesN (l : List (Int × Int)) : Int := (totalOf l + 7) / 8
def encF (m : Msg) : List Nat × Int :=
  if mknown m.id = false then ([], 4) else
  if (mvars m.id).length ≠ (mvals m).length ∨ (mup m.id = true ∧ m.ack ≠ 0) then ([], 20) else
  if maysOf (mvars m.id) (mvals m) = false then ([], 20) else
  if (packsF m.P).2 ≠ 0 then ([], (packsF m.P).2) else
  if fitsF m.id (m.P.map Prod.fst) = false then ([], 50) else
  if 1023 < bytesN (allP m 0) then ([], 2) else
  (bytesOf (laidOf (allP m (bytesN (allP m 0)))), 0)

def readVars : List Nat → List Bool → List Int × List Bool × Int
  | [], b => ([], b, 0)
  | v :: l, b => if b.length < widthOf v then ([], [], 10) else
    if mayOf v (num (b.take (widthOf v)) : Nat) = false then ([], [], 20) else
    if (readVars l (b.drop (widthOf v))).2.2 ≠ 0 then ([], [], (readVars l (b.drop (widthOf v))).2.2) else
    (((num (b.take (widthOf v)) : Nat) : Int) :: (readVars l (b.drop (widthOf v))).1, (readVars l (b.drop (widthOf v))).2.1, 0)

def packsG (all : List Bool) : Nat → Int → List (Int × List Int) × Int × Int
  | 0, a => ([], a, 0)
  | k + 1, a => if (all.length : Int) - a < 8 then ([], a, 0) else
    if (getF all a).2.2 ≠ 0 then ([], 0, (getF all a).2.2) else
    if (packsG all k (getF all a).2.1).2.2 ≠ 0 then ([], 0, (packsG all k (getF all a).2.1).2.2) else
    ((getF all a).1 :: (packsG all k (getF all a).2.1).1, (packsG all k (getF all a).2.1).2.1, 0)

def mkMsg (id : Int) (N : List Int) (P : List (Int × List Int)) : Msg :=
  if mup id = true then ⟨id, N.getD 0 0, 0, N.getD 1 0, N.drop 2, P⟩ else ⟨id, N.getD 0 0, N.getD 1 0, N.getD 2 0, N.drop 3, P⟩
def decF (xs : List Nat) : Msg × Int :=
  if (bitsOf xs).length < 8 then (mzero, 10) else
  if mknown (num ((bitsOf xs).take 8) : Nat) = false then (mzero, 4) else
  if ((bitsOf xs).drop 8).length < 10 then (mzero, 10) else
  if num (((bitsOf xs).drop 8).take 10) ≠ xs.length then (mzero, 8) else
  if (readVars (mvars (num ((bitsOf xs).take 8) : Nat)) ((bitsOf xs).drop 18)).2.2 ≠ 0 then (mzero, (readVars (mvars (num ((bitsOf xs).take 8) : Nat)) ((bitsOf xs).drop 18)).2.2) else
  if (packsG (bitsOf xs) ((bitsOf xs).length + 1) ((bitsOf xs).length - (readVars (mvars (num ((bitsOf xs).take 8) : Nat)) ((bitsOf xs).drop 18)).2.1.length)).2.2 ≠ 0 then (mzero, (packsG (bitsOf xs) ((bitsOf xs).length + 1) ((bitsOf xs).length - (readVars (mvars (num ((bitsOf xs).take 8) : Nat)) ((bitsOf xs).drop 18)).2.1.length)).2.2) else
  if ((bitsOf xs).drop (packsG (bitsOf xs) ((bitsOf xs).length + 1) ((bitsOf xs).length - (readVars (mvars (num ((bitsOf xs).take 8) : Nat)) ((bitsOf xs).drop 18)).2.1.length)).2.1.toNat).any (fun b => b) = true then (mzero, 8) else
  if fitsF (num ((bitsOf xs).take 8) : Nat) ((packsG (bitsOf xs) ((bitsOf xs).length + 1) ((bitsOf xs).length - (readVars (mvars (num ((bitsOf xs).take 8) : Nat)) ((bitsOf xs).drop 18)).2.1.length)).1.map Prod.fst) = false then (mzero, 50) else
  (mkMsg (num ((bitsOf xs).take 8) : Nat) (readVars (mvars (num ((bitsOf xs).take 8) : Nat)) ((bitsOf xs).drop 18)).1 (packsG (bitsOf xs) ((bitsOf xs).length + 1) ((bitsOf xs).length - (readVars (mvars (num ((bitsOf xs).take 8) : Nat)) ((bitsOf xs).drop 18)).2.1.length)).1, 0)

/-! The variables. -/
theorem mvars_lt {id : Int} (h : mknown id = true) : ∀ v ∈ mvars id, v < 96 := by
  intro v hv
  rw [mvars, List.mem_append] at hv
  rcases hv with hv | hv
  · unfold baseV at hv
    split at hv <;> simp at hv <;> omega
  · have := List.all_eq_true.1 (mshape h).ownR v hv
    simpa using this
theorem read_back : ∀ (L : List Nat) (N : List Int) (R : List Bool), (∀ v ∈ L, v < 96) → L.length = N.length → maysOf L N = true → readVars L (laidOf (pairsOf L N) ++ R) = (N, R, 0)
  | [], [], R, _, _, _ => rfl
  | v :: L, n :: N, R, hL, hl, hm => by
    have hm' : mayOf v n = true ∧ maysOf L N = true := by simpa [maysOf] using hm
    have hf := may_fit v (hL v (by simp)) n hm'.1
    have e : laidOf (pairsOf (v :: L) (n :: N)) ++ R = wbits n.toNat (widthOf v) (widthOf v) ++ (laidOf (pairsOf L N) ++ R) := by
      rw [show pairsOf (v :: L) (n :: N) = [(n, (widthOf v : Int))] ++ pairsOf L N from rfl, laid_append, laid_one, List.append_assoc]
      simp
    have e1 : (wbits n.toNat (widthOf v) (widthOf v) ++ (laidOf (pairsOf L N) ++ R)).take (widthOf v) = wbits n.toNat (widthOf v) (widthOf v) := List.take_left' (wbits_length _ _ _)
    have e2 : (wbits n.toNat (widthOf v) (widthOf v) ++ (laidOf (pairsOf L N) ++ R)).drop (widthOf v) = laidOf (pairsOf L N) ++ R := List.drop_left' (wbits_length _ _ _)
    have e3 : ((num (wbits n.toNat (widthOf v) (widthOf v)) : Nat) : Int) = n := by
      rw [num_wbits _ _ (by
        have e : ((n.toNat : Nat) : Int) < ((2 ^ widthOf v : Nat) : Int) := by rw [Int.toNat_of_nonneg hf.1]; exact_mod_cast hf.2
        exact_mod_cast e)]
      exact Int.toNat_of_nonneg hf.1
    have ih := read_back L N R (fun x hx => hL x (by simp [hx])) (by simpa using hl) hm'.2
    rw [e, readVars, if_neg (by rw [List.length_append, wbits_length]; omega), e1, e2, e3, if_neg (by rw [hm'.1]; decide), ih, if_neg (by simp)]
theorem read_only : ∀ (L : List Nat) (b : List Bool) (N : List Int) (R : List Bool), readVars L b = (N, R, 0) → L.length = N.length ∧ maysOf L N = true ∧ b = laidOf (pairsOf L N) ++ R
  | [], b, N, R, h => by
    rw [readVars] at h
    obtain ⟨rfl, rfl, _⟩ : [] = N ∧ b = R ∧ (0 : Int) = 0 := by simpa using h
    exact ⟨rfl, rfl, rfl⟩
  | v :: L, b, N, R, h => by
    rw [readVars] at h
    by_cases h1 : b.length < widthOf v
    · rw [if_pos h1] at h; simp at h
    rw [if_neg h1] at h
    by_cases h2 : mayOf v (num (b.take (widthOf v)) : Nat) = false
    · rw [if_pos h2] at h; simp at h
    rw [if_neg h2] at h
    by_cases h3 : (readVars L (b.drop (widthOf v))).2.2 ≠ 0
    · rw [if_pos h3] at h; simp only [Prod.mk.injEq] at h; exact absurd h.2.2 h3
    rw [if_neg h3] at h
    simp only [Prod.mk.injEq, and_true] at h
    obtain ⟨i1, i2, i3⟩ := read_only L (b.drop (widthOf v)) _ _ (show readVars L (b.drop (widthOf v)) = ((readVars L (b.drop (widthOf v))).1, (readVars L (b.drop (widthOf v))).2.1, 0) by
      have : (readVars L (b.drop (widthOf v))).2.2 = 0 := by omega
      rw [← this])
    rw [h.2] at i3
    rw [← h.1]
    refine ⟨by simpa using i1, ?_, ?_⟩
    · have i2' := i2
      unfold maysOf at i2' ⊢
      rw [List.zip_cons_cons, List.all_cons, i2', Bool.and_true]
      simpa using h2
    · have ht := num_take (widthOf v) b (by omega)
      rw [show pairsOf (v :: L) (((num (b.take (widthOf v)) : Nat) : Int) :: (readVars L (b.drop (widthOf v))).1) = [(((num (b.take (widthOf v)) : Nat) : Int), (widthOf v : Int))] ++ pairsOf L (readVars L (b.drop (widthOf v))).1 from rfl, laid_append, List.append_assoc, ← i3]
      exact ht
theorem pairs_fit {L : List Nat} {N : List Int} (hL : ∀ v ∈ L, v < 96) (hm : maysOf L N = true) : ∀ x ∈ pairsOf L N, FitP x := by
  intro x hx
  simp only [pairsOf, List.mem_map] at hx
  obtain ⟨y, hy, rfl⟩ := hx
  have hz := List.all_eq_true.1 hm y hy
  exact fit_may y.1 (hL _ (List.of_mem_zip hy).1) y.2 hz

/-! The packets. -/
theorem packs_fit : ∀ (P : List (Int × List Int)), ∀ x ∈ (packsF P).1, FitP x
  | [], x, hx => by simp [packsF] at hx
  | p :: l, x, hx => by
    rw [packsF] at hx
    split at hx
    · cases hx
    split at hx
    · cases hx
    rw [List.mem_append] at hx
    exact hx.elim (items_fit p.1 p.2 x) (packs_fit l x)
theorem packs_cons {p : Int × List Int} {l : List (Int × List Int)} {O : List (Int × Int)} (h : packsF (p :: l) = (O, 0)) : ∃ O1 O2, itemsF p.1 p.2 = (O1, 0) ∧ packsF l = (O2, 0) ∧ O = O1 ++ O2 := by
  rw [packsF] at h
  by_cases h1 : (itemsF p.1 p.2).2 ≠ 0
  · rw [if_pos h1] at h; simp only [Prod.mk.injEq] at h; exact absurd h.2 h1
  rw [if_neg h1] at h
  by_cases h2 : (packsF l).2 ≠ 0
  · rw [if_pos h2] at h; simp only [Prod.mk.injEq] at h; exact absurd h.2 h2
  rw [if_neg h2] at h
  simp only [Prod.mk.injEq, and_true] at h
  refine ⟨_, _, ?_, ?_, h.symm⟩
  · have : (itemsF p.1 p.2).2 = 0 := by omega
    rw [← this]
  · have : (packsF l).2 = 0 := by omega
    rw [← this]
theorem packs_more {p : Int × List Int} {l : List (Int × List Int)} {O1 O2 : List (Int × Int)} (h1 : itemsF p.1 p.2 = (O1, 0)) (h2 : packsF l = (O2, 0)) : packsF (p :: l) = (O1 ++ O2, 0) := by
  rw [packsF, h1, if_neg (by simp), h2, if_neg (by simp)]
theorem items_big {id : Int} {V : List Int} {O : List (Int × Int)} (h : itemsF id V = (O, 0)) : 21 ≤ totalOf O ∧ ((laidOf O).length : Int) = totalOf O := by
  have hf := items_fit id V
  rw [h] at hf
  have hl := laid_total (l := O) (fun x hx => (hf x hx).2.2.1)
  obtain ⟨_, D1, D2, w, _, hO, ht⟩ := items_ok h
  have a1 := laid_total (l := D1) (fun x hx => (w.fit x (List.mem_append_left _ hx)).2.2.1)
  have a2 := laid_total (l := D2) (fun x hx => (w.fit x (List.mem_append_right _ hx)).2.2.1)
  have a3 := total_mid id (totalOf O) D1 D2
  rw [← hO] at a3
  omega
theorem packs_back : ∀ (P : List (Int × List Int)) (O : List (Int × Int)) (A B : List Bool) (k : Nat), packsF P = (O, 0) → B.length < 8 → (laidOf O).length < k →
    packsG (A ++ laidOf O ++ B) k (A.length : Nat) = (P, ((A.length + (laidOf O).length : Nat) : Int), 0)
  | [], O, A, B, k, h, hB, hk => by
    obtain rfl : O = [] := by simpa [packsF] using h.symm
    obtain ⟨k, rfl⟩ : ∃ j, k = j + 1 := ⟨k - 1, by omega⟩
    rw [packsG, if_pos (by simp [laidOf]; omega)]
    simp [laidOf]
  | p :: l, O, A, B, k, h, hB, hk => by
    obtain ⟨O1, O2, h1, h2, rfl⟩ := packs_cons h
    obtain ⟨b1, b2⟩ := items_big h1
    have hb := get_back h1 A (laidOf O2 ++ B)
    rw [laid_append, List.length_append] at hk ⊢
    have e : A ++ (laidOf O1 ++ laidOf O2) ++ B = A ++ laidOf O1 ++ (laidOf O2 ++ B) := by simp
    have e2 : A ++ laidOf O1 ++ (laidOf O2 ++ B) = (A ++ laidOf O1) ++ laidOf O2 ++ B := by simp
    obtain ⟨k, rfl⟩ : ∃ j, k = j + 1 := ⟨k - 1, by omega⟩
    have ih := packs_back l O2 (A ++ laidOf O1) B k h2 hB (by omega)
    rw [← e2, List.length_append] at ih
    have e3 : (A.length : Int) + totalOf O1 = ((A.length + (laidOf O1).length : Nat) : Int) := by omega
    rw [e, packsG, if_neg (by simp only [List.length_append]; omega), hb, if_neg (by simp), e3, ih, if_neg (by simp)]
    simp only [Prod.mk.injEq, and_true, true_and]
    omega
theorem packs_only : ∀ (k : Nat) (all : List Bool) (a : Int) (P : List (Int × List Int)) (e : Int), packsG all k a = (P, e, 0) → 0 ≤ a → a ≤ all.length → (all.length : Int) - a < k →
    ∃ O R, packsF P = (O, 0) ∧ all.drop a.toNat = laidOf O ++ R ∧ R.length < 8 ∧ e = a + (laidOf O).length ∧ ((laidOf O).length : Int) = totalOf O
  | 0, all, a, P, e, h, h0, h1, h2 => by omega
  | k + 1, all, a, P, e, h, h0, h1, h2 => by
    rw [packsG] at h
    by_cases h3 : (all.length : Int) - a < 8
    · rw [if_pos h3] at h
      simp only [Prod.mk.injEq, and_true] at h
      obtain ⟨rfl, rfl⟩ := h
      exact ⟨[], all.drop a.toNat, rfl, rfl, by rw [List.length_drop]; omega, by simp [laidOf], rfl⟩
    rw [if_neg h3] at h
    by_cases h4 : (getF all a).2.2 ≠ 0
    · rw [if_pos h4] at h; simp only [Prod.mk.injEq] at h; exact absurd h.2.2 h4
    rw [if_neg h4] at h
    by_cases h5 : (packsG all k (getF all a).2.1).2.2 ≠ 0
    · rw [if_pos h5] at h; simp only [Prod.mk.injEq] at h; exact absurd h.2.2 h5
    rw [if_neg h5] at h
    simp only [Prod.mk.injEq, and_true] at h
    obtain ⟨O1, R1, o1, o2, o3, o4, o5, o6⟩ := get_only (show getF all a = (((getF all a).1.1, (getF all a).1.2), (getF all a).2.1, 0) by
      have : (getF all a).2.2 = 0 := by omega
      rw [← this])
    have hb := items_big o1
    have hlen := congrArg List.length o5
    rw [List.length_drop, List.length_append] at hlen
    obtain ⟨O2, R2, q1, q2, q3, q4, q5⟩ := packs_only k all (getF all a).2.1 (packsG all k (getF all a).2.1).1 (packsG all k (getF all a).2.1).2.1 (by
      have : (packsG all k (getF all a).2.1).2.2 = 0 := by omega
      rw [← this]) (by omega) (by omega) (by omega)
    have hd : all.drop (getF all a).2.1.toNat = R1 := by
      have e1 : (getF all a).2.1.toNat = a.toNat + (laidOf O1).length := by omega
      rw [e1, ← List.drop_drop, o5]
      exact List.drop_left' rfl
    rw [hd] at q2
    refine ⟨O1 ++ O2, R2, ?_, ?_, q3, ?_, ?_⟩
    · rw [← h.1]
      exact packs_more o1 q1
    · rw [laid_append, o5, q2, List.append_assoc]
    · rw [laid_append, List.length_append, ← h.2, q4]
      omega
    · rw [laid_append, List.length_append, total_append]; omega
end Go.Proofs.YtamnhnleipnhdaaDoor

/-
  Messages: what is encoded is decoded to itself; what is decoded encodes to itself; cut short, with more; in another order; their side.
-/
namespace Go.Proofs.YtamnhnleipnhdaaDoor

open Go.RowKit

open BitsM

theorem enc_fine {m : Msg} (h : (encF m).2 = 0) : mknown m.id = true ∧ (mvars m.id).length = (mvals m).length ∧ (mup m.id = true → m.ack = 0) ∧ maysOf (mvars m.id) (mvals m) = true ∧ (packsF m.P).2 = 0 ∧ fitsF m.id (m.P.map Prod.fst) = true ∧ bytesN (allP m 0) ≤ 1023 ∧
    encF m = (bytesOf (laidOf (allP m (bytesN (allP m 0)))), 0) := by
  unfold encF at h ⊢
  by_cases h1 : mknown m.id = false
  · rw [if_pos h1] at h; simp at h
  rw [if_neg h1] at h ⊢
  by_cases h2 : (mvars m.id).length ≠ (mvals m).length ∨ (mup m.id = true ∧ m.ack ≠ 0)
  · rw [if_pos h2] at h; simp at h
  rw [if_neg h2] at h ⊢
  by_cases h3 : maysOf (mvars m.id) (mvals m) = false
  · rw [if_pos h3] at h; simp at h
  rw [if_neg h3] at h ⊢
  by_cases h4 : (packsF m.P).2 ≠ 0
  · rw [if_pos h4] at h; exact absurd h h4
  rw [if_neg h4] at h ⊢
  by_cases h5 : fitsF m.id (m.P.map Prod.fst) = false
  · rw [if_pos h5] at h; simp at h
  rw [if_neg h5] at h ⊢
  by_cases h6 : 1023 < bytesN (allP m 0)
  · rw [if_pos h6] at h; simp at h
  rw [if_neg h6]
  refine ⟨by simpa using h1, by simpa using fun e => h2 (.inl e), fun hu => ?_, by simpa using h3, by omega, by simpa using h5, by omega, rfl⟩
  by_cases ha : m.ack = 0
  · exact ha
  · exact absurd (.inr ⟨hu, ha⟩) h2
theorem enc_iff {m : Msg} (h : mknown m.id = true ∧ (mvars m.id).length = (mvals m).length ∧ (mup m.id = true → m.ack = 0) ∧ maysOf (mvars m.id) (mvals m) = true ∧ (packsF m.P).2 = 0 ∧ fitsF m.id (m.P.map Prod.fst) = true ∧ bytesN (allP m 0) ≤ 1023) :
    encF m = (bytesOf (laidOf (allP m (bytesN (allP m 0)))), 0) := by
  obtain ⟨h1, h2, h3, h4, h5, h6, h7⟩ := h
  unfold encF
  rw [if_neg (by rw [h1]; decide), if_neg (fun k => k.elim (fun e => e h2) fun e => e.2 (h3 e.1)), if_neg (by rw [h4]; decide), if_neg (by rw [h5]; decide), if_neg (by rw [h6]; decide), if_neg (by omega)]
theorem enc_none {m : Msg} (h : (encF m).2 ≠ 0) : (encF m).1 = [] := by
  unfold encF at h ⊢
  repeat' split
  all_goals first | rfl | skip
  all_goals simp_all
theorem dec_none {xs : List Nat} (h : (decF xs).2 ≠ 0) : (decF xs).1 = mzero := by
  revert h
  unfold decF
  repeat' split
  all_goals first | (intro _; rfl) | (intro h; exact absurd rfl h)

theorem pairs_len (L : List Nat) (N : List Int) (h : L.length = N.length) : (pairsOf L N).length = L.length := by simp [pairsOf, h]
theorem all_fit {m : Msg} {n : Int} (hk : mknown m.id = true) (hm : maysOf (mvars m.id) (mvals m) = true) (h0 : 0 ≤ n) (h1 : n ≤ 1023) : ∀ x ∈ allP m n, FitP x := by
  have hl := (mshape hk).low
  intro x hx
  simp only [allP, List.mem_cons, List.mem_append] at hx
  rcases hx with rfl | rfl | hx | hx
  · exact ⟨hl.1, by simp only; omega, by simp only; omega, by simp only; omega⟩
  · exact ⟨h0, by simp only; omega, by simp only; omega, by simp only; omega⟩
  · exact pairs_fit (mvars_lt hk) hm x hx
  · exact packs_fit _ x hx
theorem all_total (m : Msg) (n k : Int) : totalOf (allP m n) = totalOf (allP m k) := by
  simp only [allP, total_cons]
theorem all_laid (m : Msg) (n : Int) : laidOf (allP m n) = wbits m.id.toNat 8 8 ++ (wbits n.toNat 10 10 ++ (laidOf (pairsOf (mvars m.id) (mvals m)) ++ laidOf (packsF m.P).1)) := by
  rw [allP, show (m.id, (8 : Int)) :: (n, (10 : Int)) :: (pairsOf (mvars m.id) (mvals m) ++ (packsF m.P).1) = [(m.id, 8)] ++ ([(n, 10)] ++ (pairsOf (mvars m.id) (mvals m) ++ (packsF m.P).1)) from rfl, laid_append, laid_append, laid_append, laid_one, laid_one]
  rfl
theorem all_len {m : Msg} {n : Int} (hk : mknown m.id = true) (hm : maysOf (mvars m.id) (mvals m) = true) (h0 : 0 ≤ n) (h1 : n ≤ 1023) : ((laidOf (allP m n)).length : Int) = totalOf (allP m n) :=
  laid_total fun x hx => (all_fit hk hm h0 h1 x hx).2.2.1
theorem all_pos {m : Msg} (hk : mknown m.id = true) (hm : maysOf (mvars m.id) (mvals m) = true) : 18 ≤ totalOf (allP m 0) := by
  rw [← all_len hk hm (Int.le_refl 0) (by omega), all_laid, List.length_append, List.length_append, wbits_length, wbits_length]
  omega

/-- What the bytes of a message are. -/
structure Enc1 (m : Msg) (b : List Nat) (n : Nat) : Prop where
  len : b.length = n
  n18 : 3 ≤ n
  n1023 : n ≤ 1023
  lt : ∀ x ∈ b, x < 256
  bits : ∃ Z, Z.length < 8 ∧ Z.any (fun b => b) = false ∧ bitsOf b = wbits m.id.toNat 8 8 ++ (wbits n 10 10 ++ (laidOf (pairsOf (mvars m.id) (mvals m)) ++ (laidOf (packsF m.P).1 ++ Z)))
theorem enc_bits {m : Msg} {b : List Nat} (h : encF m = (b, 0)) : ∃ n, Enc1 m b n := by
  obtain ⟨h1, h2, h3, h4, h5, h6, h7, h8⟩ := enc_fine (m := m) (by rw [h])
  rw [h] at h8
  simp only [Prod.mk.injEq, and_true] at h8
  have hp := all_pos h1 h4
  obtain ⟨N, hN⟩ : ∃ N, bytesN (allP m 0) = N := ⟨_, rfl⟩
  have hq : N = (totalOf (allP m 0) + 7) / 8 := by rw [← hN]; rfl
  rw [hN] at h7 h8
  have hl := all_len h1 h4 (n := N) (by omega) h7
  rw [all_total m _ 0] at hl
  have hlen : b.length = N.toNat := by rw [h8, bytesOf_length]; omega
  refine ⟨_, hlen, by omega, by omega, by rw [h8]; exact bytesOf_lt _, List.replicate (8 * (((laidOf (allP m N)).length + 7) / 8) - (laidOf (allP m N)).length) false, ?_, ?_, ?_⟩
  · rw [List.length_replicate]; omega
  · simp
  · rw [h8, bits_bytes]
    conv => lhs; arg 1; rw [all_laid]
    simp only [List.append_assoc]
theorem num_w8 {id : Int} (h0 : 0 ≤ id) (h1 : id < 256) : ((num (wbits id.toNat 8 8) : Nat) : Int) = id := by rw [num_wbits _ _ (by omega)]; omega
theorem head8 {a : Nat} (R : List Bool) : (wbits a 8 8 ++ R).take 8 = wbits a 8 8 ∧ (wbits a 8 8 ++ R).drop 8 = R := ⟨List.take_left' (wbits_length _ _ _), List.drop_left' (wbits_length _ _ _)⟩
theorem head10 {a : Nat} (R : List Bool) : (wbits a 10 10 ++ R).take 10 = wbits a 10 10 ∧ (wbits a 10 10 ++ R).drop 10 = R := ⟨List.take_left' (wbits_length _ _ _), List.drop_left' (wbits_length _ _ _)⟩
theorem mk_back {m : Msg} (h : mup m.id = true → m.ack = 0) : mkMsg m.id (mvals m) m.P = m := by
  unfold mkMsg mvals
  by_cases hu : mup m.id = true
  · rw [if_pos hu, if_pos hu]
    obtain ⟨id, t, ack, of_, V, P⟩ := m
    have := h hu
    simp at this
    simp [this]
  · rw [if_neg hu, if_neg hu]
    rfl
theorem enc_back {m : Msg} {b : List Nat} (h : encF m = (b, 0)) : decF b = (m, 0) := by
  obtain ⟨h1, h2, h3, h4, h5, h6, h7, _⟩ := enc_fine (m := m) (by rw [h])
  obtain ⟨n, E⟩ := enc_bits h
  obtain ⟨Z, z1, z2, hS⟩ := E.bits
  have hn := E.n1023
  have hlow := (mshape h1).low
  have hL := congrArg List.length hS
  simp only [List.length_append, wbits_length] at hL
  unfold decF
  rw [hS, if_neg (by simp only [List.length_append, wbits_length]; omega), (head8 _).1, (head8 _).2, num_w8 hlow.1 (by omega), if_neg (by rw [h1]; decide), if_neg (by simp only [List.length_append, wbits_length]; omega), (head10 _).1, num_wbits _ _ (by omega), if_neg (by rw [E.len]; exact fun k => k rfl)]
  have hd : (wbits m.id.toNat 8 8 ++ (wbits n 10 10 ++ (laidOf (pairsOf (mvars m.id) (mvals m)) ++ (laidOf (packsF m.P).1 ++ Z)))).drop 18 = laidOf (pairsOf (mvars m.id) (mvals m)) ++ (laidOf (packsF m.P).1 ++ Z) := by
    rw [show (18 : Nat) = 8 + 10 from rfl, ← List.drop_drop, (head8 _).2, (head10 _).2]
  rw [hd, read_back _ _ _ (mvars_lt h1) h2 h4, if_neg (by simp)]
  have hp : packsF m.P = ((packsF m.P).1, 0) := by rw [← h5]
  have hA : ((wbits m.id.toNat 8 8 ++ (wbits n 10 10 ++ (laidOf (pairsOf (mvars m.id) (mvals m)) ++ (laidOf (packsF m.P).1 ++ Z)))).length : Int) - ((laidOf (packsF m.P).1 ++ Z).length : Int) = ((wbits m.id.toNat 8 8 ++ wbits n 10 10 ++ laidOf (pairsOf (mvars m.id) (mvals m))).length : Nat) := by
    simp only [List.length_append, wbits_length]; omega
  have hS2 : wbits m.id.toNat 8 8 ++ (wbits n 10 10 ++ (laidOf (pairsOf (mvars m.id) (mvals m)) ++ (laidOf (packsF m.P).1 ++ Z))) = (wbits m.id.toNat 8 8 ++ wbits n 10 10 ++ laidOf (pairsOf (mvars m.id) (mvals m))) ++ laidOf (packsF m.P).1 ++ Z := by simp only [List.append_assoc]
  simp only [hA]
  rw [hS2, packs_back m.P _ _ Z _ hp z1 (by simp only [List.length_append]; omega), if_neg (by simp)]
  have hZ : ((wbits m.id.toNat 8 8 ++ wbits n 10 10 ++ laidOf (pairsOf (mvars m.id) (mvals m))) ++ laidOf (packsF m.P).1 ++ Z).drop (((wbits m.id.toNat 8 8 ++ wbits n 10 10 ++ laidOf (pairsOf (mvars m.id) (mvals m))).length + (laidOf (packsF m.P).1).length : Nat) : Int).toNat = Z := by
    refine List.drop_left' ?_
    simp only [List.length_append, Int.toNat_natCast]
  simp only [hZ, z2, h6, mk_back h3]
  simp

theorem bits_inj {xs ys : List Nat} (hx : ∀ x ∈ xs, x < 256) (hy : ∀ x ∈ ys, x < 256) (hl : xs.length = ys.length) (h : bitsOf xs = bitsOf ys) : xs = ys := by
  apply List.ext_getElem hl
  intro i h1 h2
  have a := hx _ (List.getElem_mem h1)
  have b := hy _ (List.getElem_mem h2)
  have hp : ∀ p, p < 8 * xs.length → bitAt xs p = bitAt ys p := fun p hp => by
    have h3 := congrArg (fun l => l[p]?) h
    simpa [bitsOf, bitsFrom, hp, ← hl] using h3
  apply Nat.eq_of_testBit_eq
  intro j
  by_cases hj : j < 8
  · have h3 := hp (8 * i + (7 - j)) (by omega)
    rw [bitAt_byte _ _ _ (by omega), bitAt_byte _ _ _ (by omega), show 7 - (7 - j) = j by omega] at h3
    simpa [List.getD_eq_getElem?_getD, h1, h2] using h3
  · rw [Nat.testBit_lt_two_pow (Nat.lt_of_lt_of_le a (Nat.pow_le_pow_right (n := 2) (i := 8) (by omega) (by omega))), Nat.testBit_lt_two_pow (Nat.lt_of_lt_of_le b (Nat.pow_le_pow_right (n := 2) (i := 8) (by omega) (by omega)))]
theorem zeros_of {l : List Bool} (h : l.any (fun b => b) = false) : l = List.replicate l.length false := by
  rw [List.eq_replicate_iff]
  refine ⟨rfl, fun x hx => ?_⟩
  have := List.any_eq_false.1 h x hx
  simpa using this
theorem mk_vals {id : Int} {N : List Int} {P : List (Int × List Int)} (h : (mvars id).length = N.length) : mvals (mkMsg id N P) = N ∧ (mkMsg id N P).id = id ∧ (mkMsg id N P).P = P ∧ (mup id = true → (mkMsg id N P).ack = 0) := by
  unfold mvars baseV at h
  unfold mkMsg mvals
  by_cases hu : mup id = true
  · rw [if_pos hu] at h ⊢
    refine ⟨?_, rfl, rfl, fun _ => rfl⟩
    simp only [hu, if_true]
    match N, h with
    | a :: b :: l, _ => rfl
    | [a], h => simp at h
    | [], h => simp at h
  · rw [if_neg hu] at h ⊢
    refine ⟨?_, rfl, rfl, fun k => absurd k hu⟩
    rw [if_neg hu]
    match N, h with
    | a :: b :: c :: l, _ => rfl
    | [a, b], h => simp at h
    | [a], h => simp at h
    | [], h => simp at h
theorem dec_only {xs : List Nat} {m : Msg} (hx : ∀ x ∈ xs, x < 256) (h : decF xs = (m, 0)) : encF m = (xs, 0) := by
  obtain ⟨S, hSe⟩ : ∃ S, bitsOf xs = S := ⟨_, rfl⟩
  have hSl : S.length = 8 * xs.length := by rw [← hSe, bitsOf_length]
  unfold decF at h
  rw [hSe] at h
  by_cases h1 : S.length < 8
  · rw [if_pos h1] at h; simp at h
  rw [if_neg h1] at h
  have t8 := num_take 8 S (by omega)
  generalize num (S.take 8) = id at *
  by_cases h2 : mknown (id : Nat) = false
  · rw [if_pos h2] at h; simp at h
  rw [if_neg h2] at h
  have hk : mknown (id : Nat) = true := by simpa using h2
  by_cases h3 : (S.drop 8).length < 10
  · rw [if_pos h3] at h; simp at h
  rw [if_neg h3] at h
  have t10 := num_take 10 (S.drop 8) (by omega)
  have hn10 : num ((S.drop 8).take 10) < 1024 := by
    have := num_lt ((S.drop 8).take 10)
    rwa [List.length_take, Nat.min_eq_left (by omega)] at this
  rw [List.drop_drop] at t10
  by_cases h4 : num ((S.drop 8).take 10) ≠ xs.length
  · rw [if_pos h4] at h; simp at h
  rw [if_neg h4] at h
  have h4' : num ((S.drop 8).take 10) = xs.length := by omega
  rw [h4'] at t10 hn10
  obtain ⟨⟨N, R, e⟩, hr⟩ : ∃ r, readVars (mvars (id : Nat)) (S.drop 18) = r := ⟨_, rfl⟩
  rw [hr] at h
  by_cases h5 : e ≠ 0
  · rw [if_pos h5] at h; simp only [Prod.mk.injEq] at h; exact absurd h.2 h5
  rw [if_neg h5] at h
  obtain rfl : e = 0 := by omega
  obtain ⟨r1, r2, r3⟩ := read_only _ _ _ _ hr
  have hlR := congrArg List.length r3
  rw [List.length_drop, List.length_append] at hlR
  rw [List.length_drop] at h3
  obtain ⟨⟨P, a, f⟩, hg⟩ : ∃ r, packsG S (S.length + 1) ((S.length : Int) - R.length) = r := ⟨_, rfl⟩
  simp only [hg] at h
  by_cases h6 : f ≠ 0
  · rw [if_pos h6] at h; simp only [Prod.mk.injEq] at h; exact absurd h.2 h6
  rw [if_neg h6] at h
  obtain rfl : f = 0 := by omega
  obtain ⟨O, R2, p1, p2, p3, p4, p5⟩ := packs_only _ _ _ _ _ hg (by omega) (by omega) (by omega)
  by_cases h7 : (S.drop a.toNat).any (fun b => b) = true
  · rw [if_pos h7] at h; simp at h
  rw [if_neg h7] at h
  by_cases h8 : fitsF (id : Nat) (P.map Prod.fst) = false
  · rw [if_pos h8] at h; simp at h
  rw [if_neg h8] at h
  simp only [Prod.mk.injEq, and_true] at h
  obtain ⟨v1, v2, v3, v4⟩ := mk_vals (P := P) r1
  rw [h] at v1 v2 v3 v4
  have ha : ((S.length : Int) - R.length).toNat = 18 + (laidOf (pairsOf (mvars (id : Nat)) N)).length := by omega
  have hdR : S.drop (18 + (laidOf (pairsOf (mvars (id : Nat)) N)).length) = R := by
    rw [← List.drop_drop, r3]; exact List.drop_left' rfl
  rw [ha, hdR] at p2
  have hda : S.drop a.toNat = R2 := by
    have e1 : a.toNat = (18 + (laidOf (pairsOf (mvars (id : Nat)) N)).length) + (laidOf O).length := by omega
    rw [e1, ← List.drop_drop, hdR, p2]; exact List.drop_left' rfl
  rw [hda] at h7
  have hz := zeros_of (l := R2) (by simpa using h7)
  have hO : (packsF m.P).1 = O := by rw [v3, p1]
  have hlaid : ∀ n : Int, n = xs.length → S = laidOf (allP m n) ++ R2 := by
    intro n hn
    rw [all_laid, v2, v1, hO, hn]
    conv => lhs; rw [t8, t10, r3, p2]
    rw [laid_one, laid_one]
    simp only [List.append_assoc, Int.toNat_natCast]
  have hSS := hlaid _ rfl
  have hLS := congrArg List.length hSS
  rw [List.length_append] at hLS
  have hm2 : maysOf (mvars m.id) (mvals m) = true := by rw [v2, v1]; exact r2
  have hk2 : mknown m.id = true := by rw [v2]; exact hk
  have hal := all_len (n := xs.length) hk2 hm2 (by omega) (by omega)
  rw [all_total m _ 0] at hal
  have hN : bytesN (allP m 0) = xs.length := by unfold bytesN; omega
  have he := enc_iff (m := m) ⟨hk2, by rw [v2, v1]; exact r1, by rw [v2]; exact v4, hm2, by rw [v3, p1], by rw [v2, v3]; simpa using h8, by omega⟩
  rw [he, hN]
  have hb : bytesOf (laidOf (allP m xs.length)) = xs := by
    refine bits_inj (bytesOf_lt _) hx (by rw [bytesOf_length]; omega) ?_
    rw [bits_bytes, hSe]
    conv => rhs; rw [hSS, hz]
    congr 2
    omega
  rw [hb]

/-! Bytes missing, bytes more. -/
theorem bits_app (xs ys : List Nat) : bitsOf (xs ++ ys) = bitsOf xs ++ bitsOf ys := by
  apply List.ext_getElem
  · simp only [bitsOf_length, List.length_append]; omega
  intro p h1 h2
  simp only [bitsOf_length, List.length_append] at h1
  by_cases hp : p < 8 * xs.length
  · rw [List.getElem_append_left (by rw [bitsOf_length]; exact hp)]
    have hq : p / 8 < xs.length := by omega
    simp [bitsOf, bitsFrom, bitAt, List.getD_eq_getElem?_getD, List.getElem?_append_left hq]
  · rw [List.getElem_append_right (by rw [bitsOf_length]; omega)]
    have hq : xs.length ≤ p / 8 := by omega
    simp only [bitsOf, bitsFrom, List.getElem_map, List.getElem_range, bitAt, List.getD_eq_getElem?_getD, List.length_map, List.length_range, Nat.zero_add]
    rw [List.getElem?_append_right hq, show p / 8 - xs.length = (p - 8 * xs.length) / 8 by omega, show p % 8 = (p - 8 * xs.length) % 8 by omega]
theorem dec_size {xs : List Nat} {id n : Nat} {R : List Bool} (hi : id < 256) (hk : mknown (id : Nat) = true) (hn : n < 1024) (hS : bitsOf xs = wbits id 8 8 ++ (wbits n 10 10 ++ R)) (hne : n ≠ xs.length) : (decF xs).2 = 8 := by
  unfold decF
  rw [hS, if_neg (by simp only [List.length_append, wbits_length]; omega), (head8 _).1, (head8 _).2, num_wbits _ _ hi, if_neg (by rw [hk]; decide), if_neg (by simp only [List.length_append, wbits_length]; omega), (head10 _).1, num_wbits _ _ hn, if_pos hne]
theorem dec_more {m : Msg} {b more : List Nat} (h : encF m = (b, 0)) (hm : more ≠ []) : (decF (b ++ more)).2 = 8 := by
  obtain ⟨h1, _⟩ := enc_fine (m := m) (by rw [h])
  obtain ⟨n, E⟩ := enc_bits h
  obtain ⟨Z, _, _, hS⟩ := E.bits
  have hlow := (mshape h1).low
  have hn := E.n1023
  have hl := E.len
  have hm0 : more.length ≠ 0 := fun k => hm (List.eq_nil_of_length_eq_zero k)
  refine dec_size (id := m.id.toNat) (n := n) (by omega) (by rw [Int.toNat_of_nonneg hlow.1]; exact h1) (by omega) (by rw [bits_app, hS]; simp only [List.append_assoc]; rfl) (by rw [List.length_append]; omega)
theorem dec_cut {m : Msg} {b : List Nat} (h : encF m = (b, 0)) (j : Nat) (hj : j < b.length) : (decF (b.take j)).2 = 10 ∨ (decF (b.take j)).2 = 8 := by
  obtain ⟨h1, _⟩ := enc_fine (m := m) (by rw [h])
  obtain ⟨n, E⟩ := enc_bits h
  obtain ⟨Z, _, _, hS⟩ := E.bits
  have hlow := (mshape h1).low
  have hn := E.n1023
  have hn3 := E.n18
  have hl := E.len
  have hsp := bits_app (b.take j) (b.drop j)
  rw [List.take_append_drop, hS] at hsp
  have hlt : (b.take j).length = j := by rw [List.length_take]; omega
  have hbl : (bitsOf (b.take j)).length = 8 * j := by rw [bitsOf_length, hlt]
  by_cases hj3 : 3 ≤ j
  · right
    have e1 : bitsOf (b.take j) = wbits m.id.toNat 8 8 ++ (wbits n 10 10 ++ ((bitsOf (b.take j)).drop 18)) := by
      have h2 := congrArg (List.take 18) hsp
      rw [List.take_append_of_le_length (l₁ := bitsOf (b.take j)) (by omega), ← List.append_assoc, List.take_append_of_le_length (by simp [wbits_length]), List.take_of_length_le (by simp [wbits_length])] at h2
      rw [← List.append_assoc, h2, List.take_append_drop]
    exact dec_size (id := m.id.toNat) (n := n) (by omega) (by rw [Int.toNat_of_nonneg hlow.1]; exact h1) (by omega) e1 (by rw [hlt]; omega)
  · left
    unfold decF
    by_cases h0 : j = 0
    · rw [if_pos (by omega)]
    · have e1 : (bitsOf (b.take j)).take 8 = wbits m.id.toNat 8 8 := by
        have h2 := congrArg (List.take 8) hsp
        rw [List.take_append_of_le_length (l₁ := bitsOf (b.take j)) (by omega), (head8 _).1] at h2
        exact h2.symm
      rw [if_neg (by omega), e1, num_w8 hlow.1 (by omega), if_neg (by rw [h1]; decide), if_pos (by rw [List.length_drop]; omega)]

/-! The packets in another order. -/
theorem packs_zero : ∀ (P : List (Int × List Int)), (packsF P).2 = 0 ↔ ∀ p ∈ P, (itemsF p.1 p.2).2 = 0
  | [] => by simp [packsF]
  | p :: l => by
    have ih := packs_zero l
    rw [packsF]
    constructor
    · intro h
      by_cases h1 : (itemsF p.1 p.2).2 ≠ 0
      · rw [if_pos h1] at h; exact absurd h h1
      rw [if_neg h1] at h
      by_cases h2 : (packsF l).2 ≠ 0
      · rw [if_pos h2] at h; exact absurd h h2
      intro q hq
      rcases List.mem_cons.1 hq with rfl | hq
      · omega
      · exact ih.1 (by omega) q hq
    · intro h
      have a := h p (by simp)
      have b := ih.2 fun q hq => h q (by simp [hq])
      rw [if_neg (by omega), if_neg (by omega)]
def sumT (P : List (Int × List Int)) : Int := (P.map fun p => totalOf (itemsF p.1 p.2).1).sum
theorem packs_total : ∀ (P : List (Int × List Int)), (packsF P).2 = 0 → totalOf (packsF P).1 = sumT P
  | [], _ => rfl
  | p :: l, h => by
    have hz := (packs_zero (p :: l)).1 h
    have ih := packs_total l ((packs_zero l).2 fun q hq => hz q (by simp [hq]))
    have a := hz p (by simp)
    have b := (packs_zero l).2 fun q hq => hz q (by simp [hq])
    rw [packsF, if_neg (by omega), if_neg (by omega), total_append, ih]
    simp [sumT]
theorem sum_perm {P Q : List (Int × List Int)} (h : P.Perm Q) : sumT P = sumT Q := by
  unfold sumT
  induction h with
  | nil => rfl
  | cons x _ ih => simp [ih]
  | swap x y l => simp only [List.map_cons, List.sum_cons]; omega
  | trans _ _ h1 h2 => rw [h1, h2]
theorem rest_perm {L : List Int} {a b : List Int} (h : a.Perm b) : restB L a = restB L b := by
  unfold restB
  have e1 : a.all (fun x => decide (x ∈ L)) = b.all (fun x => decide (x ∈ L)) := by
    rw [Bool.eq_iff_iff, List.all_eq_true, List.all_eq_true]
    exact ⟨fun k x hx => k x (h.mem_iff.2 hx), fun k x hx => k x (h.mem_iff.1 hx)⟩
  have e2 : decide a.Nodup = decide b.Nodup := by rw [decide_eq_decide]; exact h.nodup_iff
  rw [e1, e2]
theorem fits_perm (id : Int) (x : Int) {a b : List Int} (h : a.Perm b) : fitsF id (x :: a) = fitsF id (x :: b) := by
  unfold fitsF
  split
  · exact rest_perm (h.cons x)
  · simp only [rest_perm h]
theorem fits_twice (id : Int) (x y : Int) {a : List Int} (h : y ∈ a) : fitsF id (x :: (a ++ [y])) = false := by
  have hn : ¬ (a ++ [y]).Nodup := by
    intro hd
    rw [List.nodup_append] at hd
    exact hd.2.2 y h y (by simp) rfl
  unfold fitsF
  split
  · unfold restB
    rw [decide_eq_false (fun hd => hn (List.nodup_cons.1 hd).2), Bool.and_false]
  · simp only [restB, decide_eq_false hn, Bool.and_false]
theorem enc_perm {m : Msg} {x : Int × List Int} {a b : List (Int × List Int)} (h : a.Perm b) (ha : m.P = x :: a) (hz : (encF m).2 = 0) : (encF { m with P := x :: b }).2 = 0 := by
  obtain ⟨h1, h2, h3, h4, h5, h6, h7, _⟩ := enc_fine hz
  have hp : (packsF (x :: b)).2 = 0 := by
    rw [packs_zero]
    rw [ha, packs_zero] at h5
    intro q hq
    exact h5 q ((h.cons x).mem_iff.2 hq)
  have ht : totalOf (packsF (x :: b)).1 = totalOf (packsF m.P).1 := by rw [packs_total _ hp, packs_total _ h5, ha, sum_perm (h.cons x)]
  rw [enc_iff (m := { m with P := x :: b }) ⟨h1, h2, h3, h4, hp, ?_, ?_⟩]
  · rw [ha] at h6
    rw [← h6]
    exact (fits_perm _ _ (h.map Prod.fst)).symm
  · have e : bytesN (allP { m with P := x :: b } 0) = bytesN (allP m 0) := by
      unfold bytesN
      simp only [allP, total_cons, total_append, ht]
      rfl
    rw [e]; exact h7
theorem enc_twice {m : Msg} {x y : Int × List Int} {a : List (Int × List Int)} (hy : y ∈ a) : (encF { m with P := x :: (a ++ [y]) }).2 ≠ 0 := by
  intro hz
  obtain ⟨_, _, _, _, _, h6, _⟩ := enc_fine hz
  have e := fits_twice m.id x.1 y.1 (a := a.map Prod.fst) (List.mem_map_of_mem hy)
  simp only [List.map_cons, List.map_append, List.map_nil] at h6
  rw [h6] at e
  cases e

/-! Their side. -/
theorem fits_up {id : Int} (hk : mknown id = true) {ids : List Int} (h : fitsF id ids = true) : ∀ x ∈ ids, upB x = mup id := by
  have hs := mshape hk
  have hr : ∀ l, restB (mrow id).mayL l = true → ∀ x ∈ l, upB x = mup id := by
    intro l hl x hx
    unfold restB at hl
    simp only [Bool.and_eq_true, List.all_eq_true, decide_eq_true_eq] at hl
    have h2 := List.all_eq_true.1 hs.mayR x (hl.1 x hx)
    simp only [Bool.and_eq_true, decide_eq_true_eq] at h2
    exact h2.2
  unfold fitsF at h
  by_cases h0 : (mrow id).kd = 0
  · rw [if_pos h0] at h; exact hr ids h
  rw [if_neg h0] at h
  match ids, h with
  | a :: l, h =>
    simp only [Bool.and_eq_true] at h
    intro x hx
    rcases List.mem_cons.1 hx with rfl | hx
    · obtain ⟨hkd, k1, k2⟩ := hs.kd
      have hm := h.1
      unfold mustB at hm
      by_cases e1 : (mrow id).kd = 1
      · rw [if_pos e1, decide_eq_true_eq] at hm
        rw [hm, k1 e1]; rfl
      · rw [if_neg e1, Bool.or_eq_true, decide_eq_true_eq, decide_eq_true_eq] at hm
        rw [k2 (by omega)]
        rcases hm with rfl | rfl <;> rfl
    · exact hr l h.2 x hx
end Go.Proofs.YtamnhnleipnhdaaDoor

/-
  linesideref06.Get, Known, Up.
-/
namespace Go.Proofs.YtamnhnleipnhdaaDoor

open Go.RowKit

def rowV (R : MRow) : Value := .agg #[.string R.own, .string R.must, .string R.may]
theorem mrow_out {id : Int} (h : mknown id = false) : mrow id = mnone := by
  have hf : (mrows.find? fun r => decide (r.id = id)) = none := by
    rw [List.find?_eq_none]
    intro r hr hd
    have : mknown id = true := List.any_eq_true.2 ⟨r, hr, hd⟩
    rw [h] at this
    cases this
  rw [mrow, hf]; rfl
theorem mout_cases {id : Int} (h : mknown id = false) : id ≠ 2 ∧ id ≠ 3 ∧ id ≠ 8 ∧ id ≠ 9 ∧ id ≠ 15 ∧ id ≠ 16 ∧ id ≠ 18 ∧ id ≠ 24 ∧ id ≠ 32 ∧ id ≠ 33 ∧ id ≠ 34 ∧ id ≠ 38 ∧ id ≠ 39 ∧ id ≠ 40 ∧ id ≠ 41 ∧ id ≠ 43 ∧ id ≠ 129 ∧ id ≠ 130 ∧ id ≠ 132 ∧ id ≠ 136 ∧ id ≠ 137 ∧ id ≠ 138 ∧ id ≠ 146 ∧ id ≠ 147 ∧ id ≠ 149 ∧ id ≠ 150 ∧ id ≠ 155 ∧ id ≠ 156 ∧ id ≠ 157 ∧ id ≠ 159 := by
  simp [mknown, mrows] at h
  omega
theorem zero_row (w : World) : (w.alloc (.cells #[.string ⟨#[]⟩, .string ⟨#[]⟩, .string ⟨#[]⟩] 60)).heap[w.heap.size]? = some (.cells #[.string ⟨#[]⟩, .string ⟨#[]⟩, .string ⟨#[]⟩] 60 (0, 0)) := Has.made w 60 _

theorem below_row0 (w : World) (cs : Array Value) : Below w.heap.size w (w.alloc (.cells cs 60)) := (Below.refl w.heap.size w).alloc (Nat.le_refl _) _
set_option maxRecDepth 100000 in
set_option maxHeartbeats 8000000 in
theorem mget_in (id : Int) (h : mknown id = true) (w : World) :
    Calls Tryd.prog 31 #[.int .i64 id] w fun e w' => e = .returned (.tuple #[rowV (mrow id), .bool true]) ∧ Below w.heap.size w w' := by
  rcases mknown_cases h with rfl | rfl | rfl | rfl | rfl | rfl | rfl | rfl | rfl | rfl | rfl | rfl | rfl | rfl | rfl | rfl | rfl | rfl | rfl | rfl | rfl | rfl | rfl | rfl | rfl | rfl | rfl | rfl | rfl | rfl
  all_goals
    clear h
    go_enter Tryd.func31, Tryd.ntmps31
    go_wp2_with fail
    refine bodyPost_ret (results_row_tmp rfl _ _ w.heap.size 60 _ _ rfl (Has.made w 60 _) Tryd.underlying60 rfl (by kernel_rfl)) rfl ?_
    exact ⟨by kernel_rfl, below_row0 w _⟩
set_option maxRecDepth 100000 in
set_option maxHeartbeats 4000000 in
theorem mget_out (id : Int) (h : mknown id = false) (w : World) :
    Calls Tryd.prog 31 #[.int .i64 id] w fun e w' => e = .returned (.tuple #[rowV (mrow id), .bool false]) ∧ Below w.heap.size w w' := by
  rw [mrow_out h]
  obtain ⟨n2, n3, n8, n9, n15, n16, n18, n24, n32, n33, n34, n38, n39, n40, n41, n43, n129, n130, n132, n136, n137, n138, n146, n147, n149, n150, n155, n156, n157, n159⟩ := mout_cases h
  clear h
  go_enter Tryd.func31, Tryd.ntmps31
  go_wp2_with fail
  refine bodyPost_ret (results_row_tmp rfl _ _ w.heap.size 60 _ _ rfl (Has.made w 60 _) Tryd.underlying60 rfl (by kernel_rfl)) rfl ?_
  exact ⟨by kernel_rfl, below_row0 w _⟩
theorem mget_any (id : Int) (w : World) :
    Calls Tryd.prog 31 #[.int .i64 id] w fun e w' => e = .returned (.tuple #[rowV (mrow id), .bool (mknown id)]) ∧ Below w.heap.size w w' := by
  cases h : mknown id
  · exact mget_out id h w
  · exact mget_in id h w

set_option maxHeartbeats 1000000 in
theorem mknown_any (id : Int) (w : World) :
    Calls Tryd.prog 15 #[.int .i64 id] w fun e w' => e = .returned (.bool (mknown id)) ∧ Below w.heap.size w w' := by
  have hg := mget_any id w
  unfold rowV at hg
  generalize mknown id = k at *
  generalize mrow id = R at *
  have HG := Lib.hid hg; clear hg
  go_enter Tryd.func15, Tryd.ntmps15
  go_wp2_with fail
  refine HG.out.mono ?_
  rintro e w' ⟨rfl, hb⟩
  have HB := Lib.hid (hb.alloc hb.size (.cells #[.string R.own, .string R.must, .string R.may] 60))
  clear hb
  go_wp2
  go_ret
  exact ⟨rfl, HB.out⟩
set_option maxHeartbeats 1000000 in
theorem mup_any (id : Int) (w : World) :
    Calls Tryd.prog 17 #[.int .i64 id] w fun e w' => e = .returned (.bool (mup id)) ∧ Below w.heap.size w w' := by
  have hg := mknown_any id w
  unfold mup
  generalize mknown id = k at *
  have HG := Lib.hid hg; clear hg
  cases k
  · go_enter Tryd.func17, Tryd.ntmps17
    go_wp2_with fail
    refine HG.out.mono ?_
    rintro e w' ⟨rfl, hb⟩
    have HB := Lib.hid hb
    clear hb
    go_wp2
    go_ret
    exact ⟨by simp, HB.out⟩
  obtain h1 | ⟨h1, h2⟩ | ⟨h1, h2⟩ : id < 129 ∨ (129 ≤ id ∧ 159 < id) ∨ (129 ≤ id ∧ id ≤ 159) := by omega
  · have e : decide (129 ≤ id) = false := decide_eq_false (by omega)
    rw [e]
    clear e
    go_enter Tryd.func17, Tryd.ntmps17
    go_wp2_with fail
    refine HG.out.mono ?_
    rintro e w' ⟨rfl, hb⟩
    have HB := Lib.hid hb
    clear hb
    go_wp2
    go_ret
    exact ⟨by simp, HB.out⟩
  · have e : decide (id ≤ 159) = false := decide_eq_false (by omega)
    rw [e]
    clear e
    go_enter Tryd.func17, Tryd.ntmps17
    go_wp2_with fail
    refine HG.out.mono ?_
    rintro e w' ⟨rfl, hb⟩
    have HB := Lib.hid hb
    clear hb
    go_wp2
    go_ret
    exact ⟨by simp [h2], HB.out⟩
  · rw [decide_eq_true h1, decide_eq_true h2]
    go_enter Tryd.func17, Tryd.ntmps17
    go_wp2_with fail
    refine HG.out.mono ?_
    rintro e w' ⟨rfl, hb⟩
    have HB := Lib.hid hb
    clear hb
    go_wp2
    go_ret
    exact ⟨by simp, HB.out⟩
end Go.Proofs.YtamnhnleipnhdaaDoor

/-
  linesideref06.digits, among.
-/
namespace Go.Proofs.YtamnhnleipnhdaaDoor

open Go.RowKit

set_option maxRecDepth 100000 in
set_option maxHeartbeats 4000000 in
theorem digits_any (n : Int) (h0 : 0 ≤ n) (h1 : n < 100) (w : World) :
    Calls Tryd.prog 88 #[.int .i64 n] w fun e w' => e = .returned (.string (digitsB n)) ∧ Below w.heap.size w w' := by
  by_cases h : 9 < n
  · have hcv : (convert 28 9 (.slice (some ⟨w.heap.size, 0, none⟩) 2 2)).run Tryd.prog (w.alloc (.cells #[.int .u8 (48 + n / 10), .int .u8 (48 + n % 10)] 5)) = .ok (.string (digitsB n)) (w.alloc (.cells #[.int .u8 (48 + n / 10), .int .u8 (48 + n % 10)] 5)) := by
      have e1 : (u8s [(48 + n / 10).toNat, (48 + n % 10).toNat]).toArray = #[.int .u8 (48 + n / 10), .int .u8 (48 + n % 10)] := by
        simp only [u8s, List.map_cons, List.map_nil, Int.toNat_of_nonneg (show 0 ≤ 48 + n / 10 by omega), Int.toNat_of_nonneg (show 0 ≤ 48 + n % 10 by omega)]
      have hh := Has.made w 5 (u8s [(48 + n / 10).toNat, (48 + n % 10).toNat]).toArray
      have hc := conv8 (some ⟨w.heap.size, 0, none⟩) 2 [(48 + n / 10).toNat, (48 + n % 10).toNat] _ (At8.of_has hh)
      rw [e1] at hc
      have e0 : digitsB n = str8 [(48 + n / 10).toNat, (48 + n % 10).toNat] := by unfold digitsB; rw [if_pos h]; rfl
      rw [e0]
      exact hc
    have HB := Lib.hid ((Below.refl w.heap.size w).alloc (Nat.le_refl _) (.cells #[.int .u8 (48 + n / 10), .int .u8 (48 + n % 10)] 5))
    generalize digitsB n = D at *
    go_enter Tryd.func88, Tryd.ntmps88
    go_wp2
    go_ret
    exact ⟨rfl, HB.out⟩
  · have hcv : (convert 28 9 (.slice (some ⟨w.heap.size, 0, none⟩) 1 1)).run Tryd.prog (w.alloc (.cells #[.int .u8 (48 + n)] 5)) = .ok (.string (digitsB n)) (w.alloc (.cells #[.int .u8 (48 + n)] 5)) := by
      have e1 : (u8s [(48 + n).toNat]).toArray = #[.int .u8 (48 + n)] := by
        simp only [u8s, List.map_cons, List.map_nil, Int.toNat_of_nonneg (show 0 ≤ 48 + n by omega)]
      have hh := Has.made w 5 (u8s [(48 + n).toNat]).toArray
      have hc := conv8 (some ⟨w.heap.size, 0, none⟩) 1 [(48 + n).toNat] _ (At8.of_has hh)
      rw [e1] at hc
      have e0 : digitsB n = str8 [(48 + n).toNat] := by unfold digitsB; rw [if_neg h]; rfl
      rw [e0]
      exact hc
    have HB := Lib.hid ((Below.refl w.heap.size w).alloc (Nat.le_refl _) (.cells #[.int .u8 (48 + n)] 5))
    generalize digitsB n = D at *
    have h : n ≤ 9 := by omega
    go_enter Tryd.func88, Tryd.ntmps88
    go_wp2
    go_ret
    exact ⟨rfl, HB.out⟩

/-- Among the words from place j on. -/
def amongFrom (id : Int) (l : List ByteArray) : Bool := decide (0 ≤ id) && decide (id < 100) && l.any fun x => decide (x = digitsB id)
set_option maxRecDepth 100000 in
set_option maxHeartbeats 4000000 in
theorem among_any (id : Int) (s : ByteArray) (hs : s.size ≤ 65536) (w : World) :
    Calls Tryd.prog 71 #[.int .i64 id, .string s] w fun e w' => e = .returned (.bool (amongB id s)) ∧ Below w.heap.size w w' := by
  have hw := words_any s hs w
  have hle : (wordsOf s).length ≤ 65537 := by
    have := (wstep_le s (s.size + 1)).2
    unfold wordsOf
    omega
  rw [show amongB id s = amongFrom id (wordsOf s) from rfl]
  generalize wordsOf s = L at *
  have HW := Lib.hid hw; clear hw hs
  by_cases hr : 0 ≤ id ∧ id < 100
  · obtain ⟨r0, r1⟩ := hr
    have HD := Lib.hid (fun W => digits_any id r0 r1 W)
    have e0 : amongFrom id L = L.any (fun x => decide (x = digitsB id)) := by unfold amongFrom; rw [decide_eq_true r0, decide_eq_true r1]; simp
    obtain ⟨T, hT⟩ : ∃ T, amongFrom id L = T := ⟨_, rfl⟩
    rw [e0] at hT
    clear e0
    rw [show amongFrom id L = T from by unfold amongFrom; rw [decide_eq_true r0, decide_eq_true r1]; simpa using hT]
    generalize digitsB id = D at *
    have HT := Lib.hid hT; clear hT
    go_enter Tryd.func71, Tryd.ntmps71
    go_wp2_with fail
    refine HW.out.mono ?_
    rintro e w1 ⟨A1, c1, rfl, ho1, hb1⟩
    have HS := Lib.hid (show SlW w1 A1 L.length c1 L from ⟨rfl, Sl.of_own ho1⟩)
    have HB1 := Lib.hid hb1
    clear ho1 hb1 HW
    go_wp2
    go_loopw [6] (fun i wr => ∃ j : Nat, j ≤ L.length ∧ i = .int .i64 (j : Nat) ∧ (L.take j).any (fun x => decide (x = D)) = false ∧ Below w1.heap.size w1 wr) (fun i _ => L.length - (intOf i).toNat)
    case atStart => exact ⟨0, by omega, rfl, by simp, Below.refl _ _⟩
    case round =>
      obtain ⟨j, hj, rfl, hno, hb⟩ := hrel
      have HBR := Lib.hid hb
      clear hb
      by_cases hlt : j < L.length
      · obtain ⟨b0, o0, rfl, hc⟩ := (HS.out.under HBR.out).at_ hlt
        have hst : (L.take (j + 1)).any (fun x => decide (x = D)) = decide (L.getD j ⟨#[]⟩ = D) := by
          rw [List.take_succ_eq_append_getElem hlt, List.any_append, hno]
          simp [List.getD_eq_getElem?_getD, List.getElem?_eq_getElem hlt]
        have hall : decide (L.getD j ⟨#[]⟩ = D) = true → L.any (fun x => decide (x = D)) = true := fun h => by
          rw [List.any_eq_true]
          exact ⟨L[j], List.getElem_mem hlt, by simpa [List.getD_eq_getElem?_getD, List.getElem?_eq_getElem hlt] using h⟩
        generalize L.getD j ⟨#[]⟩ = X at *
        have hbq : (X.toList == D.toList) = decide (X = D) := bytes_beq X D
        have HST := Lib.hid hst; have HAL := Lib.hid hall
        clear hst hall hno
        have x0 : (0 : Int) ≤ j := by omega
        have x1 : (j : Int) < L.length := by omega
        have hcB : b0 < wr.heap.size := cell_block hc
        have KC := Lib.hid (fun W (hW : Below wr.heap.size wr W) => (hW.cell (p := ⟨b0, o0 + j, none⟩) hcB).trans hc)
        generalize decide (X = D) = q at *
        go_wp2_with fail
        go_region_held3 (fun w' => w'.cell? ⟨b0, o0 + j, none⟩ = some (.string X)) (first | go_keep | exact hc | exact KC.out _ (by assumption)) (first
          | (go_at_call 88; refine (HD.out _).mono ?_; rintro e w4 ⟨rfl, hb4⟩; have hc4 := KC.out _ ((below_draws (Below.refl wr.heap.size wr) 1).trans hb4)))
        have hb5 : Below w1.heap.size w1 w4 := HBR.out.trans (((below_draws (Below.refl wr.heap.size wr) 1).trans hb4).mono HBR.out.size)
        have HB5 := Lib.hid hb5
        clear hb4 hb5 hc4 hc
        cases q
        · go_wp2
          go_roundw
          case rel => exact ⟨j + 1, by omega, by go_num, HST.out, HB5.out⟩
          case measure => simp [intOf]; omega
        · obtain rfl : T = true := by rw [← HT.out]; exact HAL.out rfl
          have HBF := Lib.hid (HB1.out.trans (HB5.out.mono HB1.out.size))
          go_wp2
          go_ret
          exact ⟨rfl, HBF.out⟩
      · obtain rfl : j = L.length := by omega
        rw [List.take_length] at hno
        obtain rfl : T = false := by rw [← HT.out, hno]
        have HBF := Lib.hid (HB1.out.trans (HBR.out.mono HB1.out.size))
        go_wp2
        go_ret
        exact ⟨rfl, HBF.out⟩
  · have e0 : amongFrom id L = false := by
      unfold amongFrom
      by_cases h0 : 0 ≤ id
      · rw [decide_eq_false (show ¬ id < 100 from fun k => hr ⟨h0, k⟩)]; simp
      · rw [decide_eq_false h0]; rfl
    rw [e0]
    clear e0
    obtain h0 | ⟨h0, h1⟩ : id < 0 ∨ (0 ≤ id ∧ 100 ≤ id) := by omega
    · clear hr
      have d0 : decide (0 ≤ id) = false := decide_eq_false (by omega)
      clear h0
      go_enter Tryd.func71, Tryd.ntmps71
      go_wp2_with fail
      refine HW.out.mono ?_
      rintro e w1 ⟨A1, c1, rfl, ho1, hb1⟩
      have HS := Lib.hid (show SlW w1 A1 L.length c1 L from ⟨rfl, Sl.of_own ho1⟩)
      have HB1 := Lib.hid hb1
      clear ho1 hb1 HW
      go_wp2
      go_loopw [6] (fun i wr => ∃ j : Nat, j ≤ L.length ∧ i = .int .i64 (j : Nat) ∧ Below w1.heap.size w1 wr) (fun i _ => L.length - (intOf i).toNat)
      case atStart => exact ⟨0, by omega, rfl, Below.refl _ _⟩
      case round =>
        obtain ⟨j, hj, rfl, hb⟩ := hrel
        have HBR := Lib.hid hb
        clear hb
        by_cases hlt : j < L.length
        · have x0 : (0 : Int) ≤ j := by omega
          have x1 : (j : Int) < L.length := by omega
          go_wp2_with fail
          go_quiet (fail)
          go_wp2
          go_roundw
          case rel => exact ⟨j + 1, by omega, by go_num, below_draws HBR.out nq⟩
          case measure => simp [intOf]; omega
        · obtain rfl : j = L.length := by omega
          have HBF := Lib.hid (HB1.out.trans (HBR.out.mono HB1.out.size))
          go_wp2
          go_ret
          exact ⟨rfl, HBF.out⟩
    · clear hr
      have d0 : decide (0 ≤ id) = true := decide_eq_true h0
      have d1 : decide (id < 100) = false := decide_eq_false (by omega)
      clear h0 h1
      go_enter Tryd.func71, Tryd.ntmps71
      go_wp2_with fail
      refine HW.out.mono ?_
      rintro e w1 ⟨A1, c1, rfl, ho1, hb1⟩
      have HS := Lib.hid (show SlW w1 A1 L.length c1 L from ⟨rfl, Sl.of_own ho1⟩)
      have HB1 := Lib.hid hb1
      clear ho1 hb1 HW
      go_wp2
      go_loopw [6] (fun i wr => ∃ j : Nat, j ≤ L.length ∧ i = .int .i64 (j : Nat) ∧ Below w1.heap.size w1 wr) (fun i _ => L.length - (intOf i).toNat)
      case atStart => exact ⟨0, by omega, rfl, Below.refl _ _⟩
      case round =>
        obtain ⟨j, hj, rfl, hb⟩ := hrel
        have HBR := Lib.hid hb
        clear hb
        by_cases hlt : j < L.length
        · have x0 : (0 : Int) ≤ j := by omega
          have x1 : (j : Int) < L.length := by omega
          go_wp2_with fail
          go_quiet (fail)
          go_wp2
          go_roundw
          case rel => exact ⟨j + 1, by omega, by go_num, below_draws HBR.out nq⟩
          case measure => simp [intOf]; omega
        · obtain rfl : j = L.length := by omega
          have HBF := Lib.hid (HB1.out.trans (HBR.out.mono HB1.out.size))
          go_wp2
          go_ret
          exact ⟨rfl, HBF.out⟩
end Go.Proofs.YtamnhnleipnhdaaDoor
