/-
  PkTable, PkWords, PkClose, Cut, PkOne: merged.
-/
import Derived.Test.YtamnhnleipnhdaaDoorMgC
import Derived.Deep.LoopGhost
import Derived.Maps.AppendAt
import Derived.OwnWalk
import Derived.Test.YtamnhnleipnhdaaDoorMgA
import Derived.ChangeKeysEq
import Derived.Test.YtamnhnleipnhdaaDoorMgB
import Derived.Deep.DeepCutAuto
import Derived.Deep.CutBlock

/-
  The chapter's table of packets: its rows as bytes, as words, and as what the words stand for.
-/
namespace Go.Proofs.YtamnhnleipnhdaaDoor

open Go.RowKit

/-- A word of the table: a variable; or what is there as often as the number ahead says (0), if that is 1 (1), if it is 1 or 2 (2). -/
inductive Nd where
  | v (n : Nat)
  | g (k : Nat) (body : List Nd)

def openW (k : Nat) : ByteArray := if k = 0 then ⟨#[123]⟩ else if k = 1 then ⟨#[60]⟩ else ⟨#[40, 49, 50]⟩
def closeW (k : Nat) : ByteArray := if k = 0 then ⟨#[125]⟩ else ⟨#[62]⟩
def nameV (n : Nat) : ByteArray := (vrows.getD n vnone).name
mutual
def wordsN : Nd → List ByteArray
  | .v n => [nameV n]
  | .g k b => openW k :: (wordsL b ++ [closeW k])
def wordsL : List Nd → List ByteArray
  | [] => []
  | x :: l => wordsN x ++ wordsL l
end

def gram0 : ByteArray := ⟨#[76, 95, 80, 65, 67, 75, 69, 84, 32, 81, 95, 83, 67, 65, 76, 69, 32, 78, 73, 68, 95, 76, 82, 66, 71, 32, 68, 95, 76, 82, 66, 71, 32, 81, 95, 68, 73, 82, 76, 82, 66, 71, 32, 81, 95, 68, 76, 82, 66, 71, 32, 76, 95, 68, 79, 85, 66, 84, 79, 86, 69, 82, 32, 76, 95, 68, 79, 85, 66, 84, 85, 78, 68, 69, 82, 32, 81, 95, 76, 69, 78, 71, 84, 72, 32, 40, 49, 50, 32, 76, 95, 84, 82, 65, 73, 78, 73, 78, 84, 32, 62, 32, 86, 95, 84, 82, 65, 73, 78, 32, 81, 95, 68, 73, 82, 84, 82, 65, 73, 78, 32, 77, 95, 77, 79, 68, 69, 32, 77, 95, 76, 69, 86, 69, 76, 32, 60, 32, 78, 73, 68, 95, 78, 84, 67, 32, 62]⟩
def gram1 : ByteArray := ⟨#[76, 95, 80, 65, 67, 75, 69, 84, 32, 81, 95, 83, 67, 65, 76, 69, 32, 78, 73, 68, 95, 76, 82, 66, 71, 32, 78, 73, 68, 95, 80, 82, 86, 76, 82, 66, 71, 32, 68, 95, 76, 82, 66, 71, 32, 81, 95, 68, 73, 82, 76, 82, 66, 71, 32, 81, 95, 68, 76, 82, 66, 71, 32, 76, 95, 68, 79, 85, 66, 84, 79, 86, 69, 82, 32, 76, 95, 68, 79, 85, 66, 84, 85, 78, 68, 69, 82, 32, 81, 95, 76, 69, 78, 71, 84, 72, 32, 40, 49, 50, 32, 76, 95, 84, 82, 65, 73, 78, 73, 78, 84, 32, 62, 32, 86, 95, 84, 82, 65, 73, 78, 32, 81, 95, 68, 73, 82, 84, 82, 65, 73, 78, 32, 77, 95, 77, 79, 68, 69, 32, 77, 95, 76, 69, 86, 69, 76, 32, 60, 32, 78, 73, 68, 95, 78, 84, 67, 32, 62]⟩
def gram3 : ByteArray := ⟨#[81, 95, 68, 73, 82, 32, 76, 95, 80, 65, 67, 75, 69, 84, 32, 81, 95, 83, 67, 65, 76, 69, 32, 68, 95, 86, 65, 76, 73, 68, 78, 86, 32, 78, 95, 73, 84, 69, 82, 32, 123, 32, 78, 73, 68, 95, 67, 32, 125, 32, 86, 95, 78, 86, 83, 72, 85, 78, 84, 32, 77, 95, 78, 86, 67, 79, 78, 84, 65, 67, 84, 32, 84, 95, 78, 86, 67, 79, 78, 84, 65, 67, 84]⟩
def gram5 : ByteArray := ⟨#[81, 95, 68, 73, 82, 32, 76, 95, 80, 65, 67, 75, 69, 84, 32, 81, 95, 83, 67, 65, 76, 69, 32, 68, 95, 76, 73, 78, 75, 32, 81, 95, 78, 69, 87, 67, 79, 85, 78, 84, 82, 89, 32, 60, 32, 78, 73, 68, 95, 67, 32, 62, 32, 78, 73, 68, 95, 66, 71, 32, 81, 95, 76, 73, 78, 75, 79, 82, 73, 69, 78, 84, 65, 84, 73, 79, 78, 32, 81, 95, 76, 73, 78, 75, 82, 69, 65, 67, 84, 73, 79, 78, 32, 81, 95, 76, 79, 67, 65, 67, 67, 32, 78, 95, 73, 84, 69, 82, 32, 123, 32, 68, 95, 76, 73, 78, 75, 32, 81, 95, 78, 69, 87, 67, 79, 85, 78, 84, 82, 89, 32, 60, 32, 78, 73, 68, 95, 67, 32, 62, 32, 78, 73, 68, 95, 66, 71, 32, 81, 95, 76, 73, 78, 75, 79, 82, 73, 69, 78, 84, 65, 84, 73, 79, 78, 32, 81, 95, 76, 73, 78, 75, 82, 69, 65, 67, 84, 73, 79, 78, 32, 81, 95, 76, 79, 67, 65, 67, 67, 32, 125]⟩
def gram11 : ByteArray := ⟨#[76, 95, 80, 65, 67, 75, 69, 84, 32, 78, 73, 68, 95, 79, 80, 69, 82, 65, 84, 73, 79, 78, 65, 76, 32, 78, 67, 95, 84, 82, 65, 73, 78, 32, 76, 95, 84, 82, 65, 73, 78, 32, 86, 95, 77, 65, 88, 84, 82, 65, 73, 78, 32, 77, 95, 76, 79, 65, 68, 73, 78, 71, 71, 65, 85, 71, 69, 32, 77, 95, 65, 88, 76, 69, 76, 79, 65, 68, 32, 77, 95, 65, 73, 82, 84, 73, 71, 72, 84, 32, 78, 95, 73, 84, 69, 82, 32, 123, 32, 77, 95, 84, 82, 65, 67, 84, 73, 79, 78, 32, 125, 32, 78, 95, 73, 84, 69, 82, 32, 123, 32, 78, 73, 68, 95, 83, 84, 77, 32, 125]⟩
def gram15 : ByteArray := ⟨#[81, 95, 68, 73, 82, 32, 76, 95, 80, 65, 67, 75, 69, 84, 32, 81, 95, 83, 67, 65, 76, 69, 32, 86, 95, 69, 77, 65, 32, 84, 95, 69, 77, 65, 32, 78, 95, 73, 84, 69, 82, 32, 123, 32, 76, 95, 83, 69, 67, 84, 73, 79, 78, 32, 81, 95, 83, 69, 67, 84, 73, 79, 78, 84, 73, 77, 69, 82, 32, 60, 32, 84, 95, 83, 69, 67, 84, 73, 79, 78, 84, 73, 77, 69, 82, 32, 68, 95, 83, 69, 67, 84, 73, 79, 78, 84, 73, 77, 69, 82, 83, 84, 79, 80, 76, 79, 67, 32, 62, 32, 125, 32, 76, 95, 69, 78, 68, 83, 69, 67, 84, 73, 79, 78, 32, 81, 95, 83, 69, 67, 84, 73, 79, 78, 84, 73, 77, 69, 82, 32, 60, 32, 84, 95, 83, 69, 67, 84, 73, 79, 78, 84, 73, 77, 69, 82, 32, 68, 95, 83, 69, 67, 84, 73, 79, 78, 84, 73, 77, 69, 82, 83, 84, 79, 80, 76, 79, 67, 32, 62, 32, 81, 95, 69, 78, 68, 84, 73, 77, 69, 82, 32, 60, 32, 84, 95, 69, 78, 68, 84, 73, 77, 69, 82, 32, 68, 95, 69, 78, 68, 84, 73, 77, 69, 82, 83, 84, 65, 82, 84, 76, 79, 67, 32, 62, 32, 81, 95, 68, 65, 78, 71, 69, 82, 80, 79, 73, 78, 84, 32, 60, 32, 68, 95, 68, 80, 32, 86, 95, 82, 69, 76, 69, 65, 83, 69, 68, 80, 32, 62, 32, 81, 95, 79, 86, 69, 82, 76, 65, 80, 32, 60, 32, 68, 95, 83, 84, 65, 82, 84, 79, 76, 32, 84, 95, 79, 76, 32, 68, 95, 79, 76, 32, 86, 95, 82, 69, 76, 69, 65, 83, 69, 79, 76, 32, 62]⟩
def gram21 : ByteArray := ⟨#[81, 95, 68, 73, 82, 32, 76, 95, 80, 65, 67, 75, 69, 84, 32, 81, 95, 83, 67, 65, 76, 69, 32, 68, 95, 71, 82, 65, 68, 73, 69, 78, 84, 32, 81, 95, 71, 68, 73, 82, 32, 71, 95, 65, 32, 78, 95, 73, 84, 69, 82, 32, 123, 32, 68, 95, 71, 82, 65, 68, 73, 69, 78, 84, 32, 81, 95, 71, 68, 73, 82, 32, 71, 95, 65, 32, 125]⟩
def gram27 : ByteArray := ⟨#[81, 95, 68, 73, 82, 32, 76, 95, 80, 65, 67, 75, 69, 84, 32, 81, 95, 83, 67, 65, 76, 69, 32, 68, 95, 83, 84, 65, 84, 73, 67, 32, 86, 95, 83, 84, 65, 84, 73, 67, 32, 81, 95, 70, 82, 79, 78, 84, 32, 78, 95, 73, 84, 69, 82, 32, 123, 32, 78, 67, 95, 68, 73, 70, 70, 32, 86, 95, 68, 73, 70, 70, 32, 125, 32, 78, 95, 73, 84, 69, 82, 32, 123, 32, 68, 95, 83, 84, 65, 84, 73, 67, 32, 86, 95, 83, 84, 65, 84, 73, 67, 32, 81, 95, 70, 82, 79, 78, 84, 32, 78, 95, 73, 84, 69, 82, 32, 123, 32, 78, 67, 95, 68, 73, 70, 70, 32, 86, 95, 68, 73, 70, 70, 32, 125, 32, 125]⟩
def gram42 : ByteArray := ⟨#[81, 95, 68, 73, 82, 32, 76, 95, 80, 65, 67, 75, 69, 84, 32, 81, 95, 82, 66, 67, 32, 78, 73, 68, 95, 67, 32, 78, 73, 68, 95, 82, 66, 67, 32, 78, 73, 68, 95, 82, 65, 68, 73, 79, 32, 78, 73, 68, 95, 82, 65, 68, 73, 79, 32, 81, 95, 83, 76, 69, 69, 80, 83, 69, 83, 83, 73, 79, 78]⟩
def gram57 : ByteArray := ⟨#[81, 95, 68, 73, 82, 32, 76, 95, 80, 65, 67, 75, 69, 84, 32, 84, 95, 77, 65, 82, 32, 84, 95, 84, 73, 77, 69, 79, 85, 84, 82, 81, 83, 84, 32, 84, 95, 67, 89, 67, 82, 81, 83, 84]⟩
def gram58 : ByteArray := ⟨#[81, 95, 68, 73, 82, 32, 76, 95, 80, 65, 67, 75, 69, 84, 32, 81, 95, 83, 67, 65, 76, 69, 32, 84, 95, 67, 89, 67, 76, 79, 67, 32, 68, 95, 67, 89, 67, 76, 79, 67, 32, 77, 95, 76, 79, 67, 32, 78, 95, 73, 84, 69, 82, 32, 123, 32, 68, 95, 76, 79, 67, 32, 81, 95, 76, 71, 84, 76, 79, 67, 32, 125]⟩
def gram80 : ByteArray := ⟨#[81, 95, 68, 73, 82, 32, 76, 95, 80, 65, 67, 75, 69, 84, 32, 81, 95, 83, 67, 65, 76, 69, 32, 68, 95, 77, 65, 77, 79, 68, 69, 32, 77, 95, 77, 65, 77, 79, 68, 69, 32, 86, 95, 77, 65, 77, 79, 68, 69, 32, 76, 95, 77, 65, 77, 79, 68, 69, 32, 76, 95, 65, 67, 75, 77, 65, 77, 79, 68, 69, 32, 81, 95, 77, 65, 77, 79, 68, 69, 32, 78, 95, 73, 84, 69, 82, 32, 123, 32, 68, 95, 77, 65, 77, 79, 68, 69, 32, 77, 95, 77, 65, 77, 79, 68, 69, 32, 86, 95, 77, 65, 77, 79, 68, 69, 32, 76, 95, 77, 65, 77, 79, 68, 69, 32, 76, 95, 65, 67, 75, 77, 65, 77, 79, 68, 69, 32, 81, 95, 77, 65, 77, 79, 68, 69, 32, 125]⟩
def gramOf (id : Int) : ByteArray :=
  if id = 0 then gram0 else if id = 1 then gram1 else if id = 3 then gram3 else if id = 5 then gram5 else if id = 11 then gram11 else if id = 15 then gram15 else if id = 21 then gram21 else if id = 27 then gram27 else if id = 42 then gram42 else if id = 57 then gram57 else if id = 58 then gram58 else if id = 80 then gram80 else ⟨#[]⟩

def ast0 : List Nd := [.v 7, .v 8, .v 4, .v 13, .v 14, .v 15, .v 16, .v 17, .v 18, .g 2 [.v 19], .v 20, .v 21, .v 22, .v 23, .g 1 [.v 24]]
def ast1 : List Nd := [.v 7, .v 8, .v 4, .v 74, .v 13, .v 14, .v 15, .v 16, .v 17, .v 18, .g 2 [.v 19], .v 20, .v 21, .v 22, .v 23, .g 1 [.v 24]]
def ast3 : List Nd := [.v 6, .v 7, .v 8, .v 84, .v 27, .g 0 [.v 10], .v 85, .v 87, .v 86]
def ast5 : List Nd := [.v 6, .v 7, .v 8, .v 44, .v 12, .g 1 [.v 10], .v 11, .v 45, .v 46, .v 47, .v 27, .g 0 [.v 44, .v 12, .g 1 [.v 10], .v 11, .v 45, .v 46, .v 47]]
def ast11 : List Nd := [.v 7, .v 75, .v 76, .v 77, .v 78, .v 79, .v 80, .v 81, .v 27, .g 0 [.v 82], .v 27, .g 0 [.v 83]]
def ast15 : List Nd := [.v 6, .v 7, .v 8, .v 25, .v 26, .v 27, .g 0 [.v 28, .v 29, .g 1 [.v 30, .v 31]], .v 32, .v 29, .g 1 [.v 30, .v 31], .v 33, .g 1 [.v 34, .v 35], .v 36, .g 1 [.v 37, .v 38], .v 39, .g 1 [.v 40, .v 41, .v 42, .v 43]]
def ast21 : List Nd := [.v 6, .v 7, .v 8, .v 48, .v 49, .v 50, .v 27, .g 0 [.v 48, .v 49, .v 50]]
def ast27 : List Nd := [.v 6, .v 7, .v 8, .v 51, .v 52, .v 53, .v 27, .g 0 [.v 54, .v 55], .v 27, .g 0 [.v 51, .v 52, .v 53, .v 27, .g 0 [.v 54, .v 55]]]
def ast42 : List Nd := [.v 6, .v 7, .v 62, .v 10, .v 63, .v 64, .v 64, .v 65]
def ast57 : List Nd := [.v 6, .v 7, .v 66, .v 67, .v 68]
def ast58 : List Nd := [.v 6, .v 7, .v 8, .v 69, .v 70, .v 71, .v 27, .g 0 [.v 72, .v 73]]
def ast80 : List Nd := [.v 6, .v 7, .v 8, .v 56, .v 57, .v 58, .v 59, .v 60, .v 61, .v 27, .g 0 [.v 56, .v 57, .v 58, .v 59, .v 60, .v 61]]
def astOf (id : Int) : List Nd :=
  if id = 0 then ast0 else if id = 1 then ast1 else if id = 3 then ast3 else if id = 5 then ast5 else if id = 11 then ast11 else if id = 15 then ast15 else if id = 21 then ast21 else if id = 27 then ast27 else if id = 42 then ast42 else if id = 57 then ast57 else if id = 58 then ast58 else if id = 80 then ast80 else []
def knownB (id : Int) : Bool := decide (id = 0) || decide (id = 1) || decide (id = 3) || decide (id = 5) || decide (id = 11) || decide (id = 15) || decide (id = 21) || decide (id = 27) || decide (id = 42) || decide (id = 57) || decide (id = 58) || decide (id = 80)

/-- What stands between blanks, ahead of place j; where the present word begins. -/
def wstep (s : ByteArray) : Nat → List ByteArray × Nat
  | 0 => ([], 0)
  | j + 1 => if j = s.size ∨ s.data.getD j 0 = 32 then (if (wstep s j).2 < j then (wstep s j).1 ++ [s.extract (wstep s j).2 j] else (wstep s j).1, j + 1) else wstep s j
def wordsOf (s : ByteArray) : List ByteArray := (wstep s (s.size + 1)).1
theorem words0 : wordsOf gram0 = wordsL ast0 := by kernel_rfl
theorem words1 : wordsOf gram1 = wordsL ast1 := by kernel_rfl
theorem words3 : wordsOf gram3 = wordsL ast3 := by kernel_rfl
theorem words5 : wordsOf gram5 = wordsL ast5 := by kernel_rfl
theorem words11 : wordsOf gram11 = wordsL ast11 := by kernel_rfl
theorem words15 : wordsOf gram15 = wordsL ast15 := by kernel_rfl
theorem words21 : wordsOf gram21 = wordsL ast21 := by kernel_rfl
theorem words27 : wordsOf gram27 = wordsL ast27 := by kernel_rfl
theorem words42 : wordsOf gram42 = wordsL ast42 := by kernel_rfl
theorem words57 : wordsOf gram57 = wordsL ast57 := by kernel_rfl
theorem words58 : wordsOf gram58 = wordsL ast58 := by kernel_rfl
theorem words80 : wordsOf gram80 = wordsL ast80 := by kernel_rfl

theorem grammar_any (id : Int) (w : World) :
    Calls Tryd.prog 70 #[.int .i64 id] w fun e w' => e = .returned (.string (gramOf id)) ∧ w = w' := by
  by_cases h : id = 0 ∨ id = 1 ∨ id = 3 ∨ id = 5 ∨ id = 11 ∨ id = 15 ∨ id = 21 ∨ id = 27 ∨ id = 42 ∨ id = 57 ∨ id = 58 ∨ id = 80
  · rcases h with rfl | rfl | rfl | rfl | rfl | rfl | rfl | rfl | rfl | rfl | rfl | rfl
    all_goals
      go_enter Tryd.func70, Tryd.ntmps70
      go_wp2
      go_ret
      exact ⟨by kernel_rfl, rfl⟩
  · have e : gramOf id = ⟨#[]⟩ := by
      unfold gramOf
      rw [if_neg (fun k => h (by omega))]
      rw [if_neg (fun k => h (by omega))]
      rw [if_neg (fun k => h (by omega))]
      rw [if_neg (fun k => h (by omega))]
      rw [if_neg (fun k => h (by omega))]
      rw [if_neg (fun k => h (by omega))]
      rw [if_neg (fun k => h (by omega))]
      rw [if_neg (fun k => h (by omega))]
      rw [if_neg (fun k => h (by omega))]
      rw [if_neg (fun k => h (by omega))]
      rw [if_neg (fun k => h (by omega))]
      rw [if_neg (fun k => h (by omega))]
    rw [e]
    obtain ⟨h0, h1, h3, h5, h11, h15, h21, h27, h42, h57, h58, h80⟩ : id ≠ 0 ∧ id ≠ 1 ∧ id ≠ 3 ∧ id ≠ 5 ∧ id ≠ 11 ∧ id ≠ 15 ∧ id ≠ 21 ∧ id ≠ 27 ∧ id ≠ 42 ∧ id ≠ 57 ∧ id ≠ 58 ∧ id ≠ 80 := by omega
    clear h e
    go_enter Tryd.func70, Tryd.ntmps70
    go_wp2
    go_ret
    exact ⟨rfl, rfl⟩

end Go.Proofs.YtamnhnleipnhdaaDoor

/-
  linesideref05.Words, Known, Up, closing.
-/
namespace Go.Proofs.YtamnhnleipnhdaaDoor

open Go.RowKit

def strs (l : List ByteArray) : List Value := l.map .string
theorem strs_length (l : List ByteArray) : (strs l).length = l.length := by simp [strs]
theorem strs_one (l : List ByteArray) : ∀ v ∈ strs l, v.oneCell' = true := by
  intro v hv
  simp only [strs, List.mem_map] at hv
  obtain ⟨b, _, rfl⟩ := hv
  rfl
theorem info_str : (Tryd.prog.info? 9).map (fun i => (i.zero, i.size, i.bytes)) = some (some (.string ⟨#[]⟩), 1, 16) := by kernel_rfl
abbrev OwS (base : Nat) (w : World) (A : Option Addr) (m c : Nat) (l : List ByteArray) : Prop := w.ownsRow base 9 1 (.slice A m c) m (strs l)

theorem wstep_le (s : ByteArray) : ∀ j, (wstep s j).2 ≤ j ∧ (wstep s j).1.length ≤ j
  | 0 => ⟨Nat.le_refl _, Nat.le_refl _⟩
  | j + 1 => by
    have h := wstep_le s j
    rw [wstep]
    split
    · refine ⟨Nat.le_refl _, ?_⟩
      show (if _ then _ else _ : List ByteArray).length ≤ _
      split
      · rw [List.length_append, List.length_singleton]; omega
      · omega
    · omega

theorem data_at (s : ByteArray) (j : Nat) (h : j < s.size) : s.data.getD j 0 = s[j]'h := by
  have h2 : j < s.data.size := h
  rw [Array.getD_eq_getD_getElem?, Array.getElem?_eq_getElem h2]; rfl
theorem push_str {base : Nat} {w0 w : World} {A : Option Addr} {m c : Nat} {l : List ByteArray} (x : ByteArray) (ho : OwS base w A m c l) (hb : Below base w0 w) (hbase : base ≤ w.heap.size) (hm : m ≤ 1048576) :
    Hid (([.string x] : List Value).length = 1 * 1) ∧ Hid ((w.alloc (.cells #[.string x] 9)).ownsRow base 9 1 (.slice A m c) m (strs l)) ∧
    Hid (∀ i u, ([.string x] : List Value)[i]? = some u → (w.alloc (.cells #[.string x] 9)).cell? ((⟨w.heap.size, 0, none⟩ : Addr).add i) = some u) ∧
    Hid (∀ u ∈ ([.string x] : List Value), u.oneCell' = true) ∧
    Hid (m + 1 ≤ maxLen ∧ (m + 1) * 16 ≤ 140737488355328 ∧ base ≤ (w.alloc (.cells #[.string x] 9)).heap.size) ∧
    Hid (Below base w0 (w.alloc (.cells #[.string x] 9))) := by
  refine ⟨Lib.hid rfl, Lib.hid (ho.alloc _), Lib.hid ?_, Lib.hid ?_, Lib.hid ⟨by unfold maxLen; omega, by omega, by simp; omega⟩, Lib.hid (hb.alloc hbase _)⟩
  · intro i u hu
    rw [WideShapes.add_plain, (Has.made w 9 #[.string x]).cell, Nat.zero_add]
    simpa using hu
  · intro u hu
    simp only [List.mem_singleton] at hu
    subst hu
    rfl
theorem run_cutstr {P : Program} (t : TypeId) (h : P.underlying t = some .string) (s : ByteArray) (f j : Nat) (h1 : f ≤ j) (h2 : j ≤ s.size) (w : World) :
    (Instr.sliceAt t (.string s) (some (.int .i64 (f : Nat))) (some (.int .i64 (j : Nat))) none).run P w = .ok (.string (s.extract f j)) w := by
  have a0 : (0 : Int) ≤ (f : Nat) := by omega
  have a1 : ((f : Nat) : Int) ≤ (j : Nat) := by omega
  have a2 : (0 : Int) ≤ (j : Nat) := by omega
  have a3 : ((j : Nat) : Int) ≤ (s.size : Nat) := by omega
  simp [Instr.sliceAt, Instr.slice, run_underlying h, Instr.sliceBounds, run_sliceBound, a0, a1, a2, a3]
theorem wstep_end {s : ByteArray} {j : Nat} (h : j = s.size ∨ s.data.getD j 0 = 32) : wstep s (j + 1) = (if (wstep s j).2 < j then (wstep s j).1 ++ [s.extract (wstep s j).2 j] else (wstep s j).1, j + 1) := by rw [wstep, if_pos h]
theorem wstep_in {s : ByteArray} {j : Nat} (h : ¬ (j = s.size ∨ s.data.getD j 0 = 32)) : wstep s (j + 1) = wstep s j := by rw [wstep, if_neg h]

set_option maxRecDepth 100000 in
set_option maxHeartbeats 4000000 in
theorem words_any (s : ByteArray) (hs : s.size ≤ 65536) (w : World) :
    Calls Tryd.prog 64 #[.string s] w fun e w' => ∃ A c, e = .returned (.slice A (wordsOf s).length c) ∧ OwS w.heap.size w' A (wordsOf s).length c (wordsOf s) ∧ Below w.heap.size w w' := by
  obtain ⟨M, hM⟩ : ∃ M, wordsOf s = M := ⟨_, rfl⟩
  rw [hM]
  have HM := Lib.hid hM; clear hM
  have HO0 : Hid (OwS w.heap.size w none 0 0 []) := Lib.hid (World.ownsRow_nil w w.heap.size 9 1)
  go_enter Tryd.func64, Tryd.ntmps64
  go_wp2
  go_loopg [3, 4, 5] (s.size + 1) (fun kk v f i wl => ∃ (j : Nat) (A2 : Option Addr) (c2 : Nat), j ≤ s.size + 1 ∧ s.size + 1 - j ≤ kk ∧ i = .int .i64 j ∧ f = .int .i64 ((wstep s j).2 : Nat) ∧ v = .slice A2 (wstep s j).1.length c2 ∧ OwS w.heap.size wl A2 (wstep s j).1.length c2 (wstep s j).1 ∧ Below w.heap.size w wl)
  case atStart => exact ⟨0, none, 0, by omega, by omega, rfl, rfl, rfl, HO0.out, Below.refl _ _⟩
  case round =>
    obtain ⟨j, A2, c2, hj, hjk, rfl, rfl, rfl, ho, hb⟩ := hrel
    have HO := Lib.hid ho; have HB := Lib.hid hb; clear ho hb
    by_cases hlt : j < s.size + 1
    · have hle := wstep_le s j
      by_cases hend : j = s.size ∨ s.data.getD j 0 = 32
      · have hst := wstep_end hend
        obtain ⟨P, hP⟩ : ∃ P, wstep s j = P := ⟨_, rfl⟩
        rw [hP] at hst HO hle ⊢
        obtain ⟨K, f⟩ := P
        simp only at HO hle hst ⊢
        by_cases he : j = s.size
        · subst he
          have h1 : ((s.size : Int) == (s.size : Int)) = true := by simp
          by_cases hf : f < s.size
          · have x2 : (f : Int) < s.size := by omega
            have y0 : (0 : Int) ≤ f := by omega
            have y1 : (f : Int) ≤ s.size := by omega
            have y2 : (s.size : Int) ≤ s.size := by omega
            rw [if_pos hf] at hst
            obtain ⟨hN, hO3, hC, h1c, hBD, hB3⟩ := push_str (s.extract f s.size) HO.out HB.out HB.out.size (by omega)
            go_wp2_with (with_reducible refine wpList_push (o := ⟨some 31, _, _, _, _, _⟩) rfl (.tmp 25) (.tmp 30) 63 rfl w.heap.size 9 (.string ⟨#[]⟩) 1 16 Tryd.underlying63 info_str ?hz (by decide) A2 K.length c2 (strs K) ?hs hO3 ⟨wr.heap.size, 0, none⟩ 1 1 [.string (s.extract f s.size)] ?hx hN hC h1c hBD ?next)
            case next =>
              intro A4 c4 w4 ho4 hg4
              go_wp2
              go_roundg (gk - 1)
              case measure => omega
              case rel =>
                refine ⟨s.size + 1, A4, c4, by omega, by omega, by go_num, by rw [hst]; go_num, by rw [hst]; simp, ?_, below_own hB3.out hBD.out.2.2 hO3.out (Nat.le_refl _) rfl hg4.out⟩
                rw [hst]
                have := ho4.out
                simpa [OwS, strs] using this
          · have x2 : ¬ (f : Int) < s.size := by omega
            rw [if_neg hf] at hst
            go_wp2
            go_roundg (gk - 1)
            case measure => omega
            case rel => exact ⟨s.size + 1, A2, c2, by omega, by omega, by go_num, by rw [hst]; go_num, by rw [hst], by rw [hst]; exact HO.out, HB.out⟩
        · have h1 : ((j : Int) == (s.size : Int)) = false := by rw [beq_eq_false_iff_ne]; omega
          have x0 : (0 : Int) ≤ j := by omega
          have x1 : (j : Int) < s.size := by omega
          have hj1 : j < s.size := by omega
          have h2 : (((s[j]'hj1).toNat : Int) == 32) = true := by
            have h3 := hend.resolve_left he
            rw [data_at s j hj1] at h3
            rw [h3]; rfl
          by_cases hf : f < j
          · have x2 : (f : Int) < j := by omega
            have y0 : (0 : Int) ≤ f := by omega
            have y1 : (f : Int) ≤ j := by omega
            have y2 : (j : Int) ≤ s.size := by omega
            rw [if_pos hf] at hst
            have e1 : ∀ w, (Instr.sliceAt 9 (.string s) (some (.int .i64 (f : Nat))) (some (.int .i64 (j : Nat))) none).run Tryd.prog w = .ok (.string (s.extract f j)) w := fun w => run_cutstr _ Tryd.underlying9 s f j (by omega) (by omega) w
            obtain ⟨hN, hO3, hC, h1c, hBD, hB3⟩ := push_str (s.extract f j) HO.out HB.out HB.out.size (by omega)
            go_wp2_with (with_reducible refine wpList_push (o := ⟨some 31, _, _, _, _, _⟩) rfl (.tmp 25) (.tmp 30) 63 rfl w.heap.size 9 (.string ⟨#[]⟩) 1 16 Tryd.underlying63 info_str ?hz2 (by decide) A2 K.length c2 (strs K) ?hs2 hO3 ⟨wr.heap.size, 0, none⟩ 1 1 [.string (s.extract f j)] ?hx2 hN hC h1c hBD ?next2)
            all_goals try rfl
            case next2 =>
              intro A4 c4 w4 ho4 hg4
              go_wp2
              go_roundg (gk - 1)
              case measure => omega
              case rel =>
                refine ⟨j + 1, A4, c4, by omega, by omega, by go_num, by rw [hst]; go_num, by rw [hst]; simp, ?_, below_own hB3.out hBD.out.2.2 hO3.out (Nat.le_refl _) rfl hg4.out⟩
                rw [hst]
                have := ho4.out
                simpa [OwS, strs] using this
          · have x2 : ¬ (f : Int) < j := by omega
            rw [if_neg hf] at hst
            go_wp2
            go_roundg (gk - 1)
            case measure => omega
            case rel => exact ⟨j + 1, A2, c2, by omega, by omega, by go_num, by rw [hst]; go_num, by rw [hst], by rw [hst]; exact HO.out, HB.out⟩
      · have hst := wstep_in hend
        obtain ⟨P, hP⟩ : ∃ P, wstep s j = P := ⟨_, rfl⟩
        rw [hP] at hst HO hle ⊢
        obtain ⟨K, f⟩ := P
        simp only at HO hle ⊢
        have h1 : ((j : Int) == (s.size : Int)) = false := by rw [beq_eq_false_iff_ne]; omega
        have x0 : (0 : Int) ≤ j := by omega
        have x1 : (j : Int) < s.size := by omega
        have hj1 : j < s.size := by omega
        have h2 : (((s[j]'hj1).toNat : Int) == 32) = false := by
          rw [beq_eq_false_iff_ne]
          intro h3
          refine hend (.inr ?_)
          rw [data_at s j hj1]
          exact UInt8.toNat_inj.1 (by have : (s[j]'hj1).toNat = 32 := by omega
                                      rw [this]; rfl)
        go_wp2
        go_roundg (gk - 1)
        case measure => omega
        case rel => exact ⟨j + 1, A2, c2, by omega, by omega, by go_num, by rw [hst], by rw [hst], by rw [hst]; exact HO.out, HB.out⟩
    · obtain rfl : j = s.size + 1 := by omega
      have hM := HM.out
      unfold wordsOf at hM
      rw [hM] at HO ⊢
      go_wp2
      go_ret
      exact ⟨A2, c2, rfl, HO.out, HB.out⟩

theorem gram_ne (id : Int) : decide (gramOf id ≠ ⟨#[]⟩) = knownB id := by
  unfold knownB
  by_cases h : id = 0 ∨ id = 1 ∨ id = 3 ∨ id = 5 ∨ id = 11 ∨ id = 15 ∨ id = 21 ∨ id = 27 ∨ id = 42 ∨ id = 57 ∨ id = 58 ∨ id = 80
  · rcases h with rfl | rfl | rfl | rfl | rfl | rfl | rfl | rfl | rfl | rfl | rfl | rfl
    all_goals kernel_rfl
  · have e : gramOf id = ⟨#[]⟩ := by
      unfold gramOf
      iterate 12 rw [if_neg (fun k => h (by omega))]
    rw [e, decide_eq_false (by simp)]
    symm
    simp only [Bool.or_eq_false_iff, decide_eq_false_iff_not]
    omega
theorem isEmpty_ne (s : ByteArray) : s.toList.isEmpty = !decide (s ≠ ⟨#[]⟩) := by
  have h := bytes_beq s ⟨#[]⟩
  rw [show (⟨#[]⟩ : ByteArray).toList = [] from by kernel_rfl] at h
  have e : s.toList.isEmpty = (s.toList == []) := by cases s.toList <;> rfl
  rw [e, h, decide_not, Bool.not_not]

theorem known_any (id : Int) (w : World) :
    Calls Tryd.prog 68 #[.int .i64 id] w fun e w' => e = .returned (.bool (knownB id)) ∧ w = w' := by
  have h := gram_ne id
  have c := grammar_any id w
  have h2 := isEmpty_ne (gramOf id)
  rw [h] at h2
  generalize gramOf id = s at *
  generalize knownB id = b at *
  have C := Lib.hid c; clear c h
  go_enter Tryd.func68, Tryd.ntmps68
  go_wp2_with fail
  refine C.out.mono ?_
  rintro e w' ⟨rfl, rfl⟩
  go_wp2
  go_ret
  exact ⟨by cases b <;> simp_all, rfl⟩
end Go.Proofs.YtamnhnleipnhdaaDoor

/-
  linesideref05.closing: where what begins at a bracket ends.
-/
namespace Go.Proofs.YtamnhnleipnhdaaDoor

open Go.RowKit

/-- A slice that holds these words. -/
structure SlW (w : World) (A : Option Addr) (m c : Nat) (l : List ByteArray) : Prop where
  len : l.length = m
  sl : Sl w 1 A m c (strs l)
theorem SlW.under {w w' : World} {A : Option Addr} {m c : Nat} {l : List ByteArray} (h : SlW w A m c l) (hb : Below w.heap.size w w') : SlW w' A m c l := ⟨h.len, h.sl.under hb⟩
theorem SlW.at_ {w : World} {A : Option Addr} {m c : Nat} {l : List ByteArray} (h : SlW w A m c l) {j : Nat} (hj : j < m) : ∃ b off, A = some ⟨b, off, none⟩ ∧ w.cell? ⟨b, off + j, none⟩ = some (.string (l.getD j ⟨#[]⟩)) := by
  have hl : j < l.length := by have := h.len; omega
  exact h.sl.at_ (by simp [strs, List.getD_eq_getElem?_getD, List.getElem?_eq_getElem hl])

def isOpen (w : ByteArray) : Bool := decide (w = ⟨#[123]⟩) || decide (w = ⟨#[60]⟩) || decide (w = ⟨#[40, 49, 50]⟩)
def isClose (w : ByteArray) : Bool := decide (w = ⟨#[125]⟩) || decide (w = ⟨#[62]⟩)
def deepen (w : ByteArray) (d : Int) : Int := (if isOpen w = true then d + 1 else d) - (if isClose w = true then 1 else 0)
def closeGo (L : List ByteArray) : Nat → Nat → Int → Nat
  | 0, _, _ => L.length
  | f + 1, i, d => if deepen (L.getD i ⟨#[]⟩) d = 0 then i else closeGo L f (i + 1) (deepen (L.getD i ⟨#[]⟩) d)

set_option maxRecDepth 100000 in
set_option maxHeartbeats 8000000 in
theorem closing_any (A : Option Addr) (n c : Nat) (L : List ByteArray) (at_ : Nat) (hat : at_ ≤ n) (hn : n ≤ 1048576) (w : World) (hL : SlW w A n c L) :
    Calls Tryd.prog 87 #[.slice A n c, .int .i64 (at_ : Nat)] w fun e w' => e = .returned (.int .i64 (closeGo L (n - at_) at_ 0 : Nat)) ∧ w = w' := by
  have hlen := hL.len
  obtain ⟨R, hR⟩ : ∃ R, closeGo L (n - at_) at_ 0 = R := ⟨_, rfl⟩
  rw [hR]
  have HL := Lib.hid hL; clear hL
  have HR := Lib.hid hR; clear hR
  go_enter Tryd.func87, Tryd.ntmps87
  go_wp2
  go_loop [5, 6] (fun dv i => ∃ (j : Nat) (d : Int), j ≤ n ∧ i = .int .i64 j ∧ dv = .int .i64 d ∧ -(j : Int) ≤ d ∧ d ≤ j ∧ closeGo L (n - j) j d = R) (fun _ i => n - (intOf i).toNat)
  case atStart => exact ⟨at_, 0, hat, rfl, rfl, by omega, by omega, HR.out⟩
  case round =>
    obtain ⟨j, d, hj, rfl, rfl, hd1, hd2, hg⟩ := hrel
    by_cases hlt : j < n
    · obtain ⟨b, off, rfl, hc⟩ := HL.out.at_ hlt
      rw [show n - j = (n - (j + 1)) + 1 by omega, closeGo] at hg
      generalize L.getD j ⟨#[]⟩ = W at *
      have f1 := bytes_beq W ⟨#[123]⟩
      rw [show (⟨#[123]⟩ : ByteArray).toList = [123] from by kernel_rfl] at f1
      have f2 := bytes_beq W ⟨#[60]⟩
      rw [show (⟨#[60]⟩ : ByteArray).toList = [60] from by kernel_rfl] at f2
      have f3 := bytes_beq W ⟨#[40, 49, 50]⟩
      rw [show (⟨#[40, 49, 50]⟩ : ByteArray).toList = [40, 49, 50] from by kernel_rfl] at f3
      have f4 := bytes_beq W ⟨#[125]⟩
      rw [show (⟨#[125]⟩ : ByteArray).toList = [125] from by kernel_rfl] at f4
      have f5 := bytes_beq W ⟨#[62]⟩
      rw [show (⟨#[62]⟩ : ByteArray).toList = [62] from by kernel_rfl] at f5
      unfold deepen isOpen isClose at hg
      generalize decide (W = ⟨#[123]⟩) = b1 at *
      generalize decide (W = ⟨#[60]⟩) = b2 at *
      generalize decide (W = ⟨#[40, 49, 50]⟩) = b3 at *
      generalize decide (W = ⟨#[125]⟩) = b4 at *
      generalize decide (W = ⟨#[62]⟩) = b5 at *
      have x0 : (0 : Int) ≤ j := by omega
      have x1 : (j : Int) < n := by omega
      have x2 : (n : Int) ≤ 1048576 := by omega
      obtain ⟨o, ho⟩ : ∃ o : Int, (if (b1 || b2 || b3) = true then d + 1 else d) - (if (b4 || b5) = true then 1 else 0) = o := ⟨_, rfl⟩
      rw [ho] at hg
      have HG := Lib.hid hg; clear hg
      cases b1
      · skip
        cases b2
        · skip
          cases b3
          · skip
            cases b4
            · skip
              cases b5
              · skip
                have eo : o = d := by rw [← ho]; simp
                have hg := HG.out
                rw [eo] at hg
                clear ho eo HG
                by_cases hz : d = 0
                · have hz1 : ((d) == 0) = true := by rw [beq_iff_eq]; exact hz
                  rw [if_pos hz] at hg
                  subst hg
                  clear hz
                  go_wp2
                  go_ret
                  exact ⟨rfl, rfl⟩
                · have hz1 : ((d) == 0) = false := by rw [beq_eq_false_iff_ne]; exact hz
                  rw [if_neg hz] at hg
                  have HG2 := Lib.hid hg; clear hg hz
                  go_wp2
                  go_round
                  case rel => exact ⟨j + 1, d, by omega, by go_num, by go_num, by omega, by omega, HG2.out⟩
                  case measure => simp [intOf]; omega
              · skip
                have eo : o = d - 1 := by rw [← ho]; simp
                have hg := HG.out
                rw [eo] at hg
                clear ho eo HG
                by_cases hz : d - 1 = 0
                · have hz1 : ((d - 1) == 0) = true := by rw [beq_iff_eq]; exact hz
                  rw [if_pos hz] at hg
                  subst hg
                  clear hz
                  go_wp2
                  go_ret
                  exact ⟨rfl, rfl⟩
                · have hz1 : ((d - 1) == 0) = false := by rw [beq_eq_false_iff_ne]; exact hz
                  rw [if_neg hz] at hg
                  have HG2 := Lib.hid hg; clear hg hz
                  go_wp2
                  go_round
                  case rel => exact ⟨j + 1, d - 1, by omega, by go_num, by go_num, by omega, by omega, HG2.out⟩
                  case measure => simp [intOf]; omega
            · skip
              have eo : o = d - 1 := by rw [← ho]; simp
              have hg := HG.out
              rw [eo] at hg
              clear ho eo HG
              by_cases hz : d - 1 = 0
              · have hz1 : ((d - 1) == 0) = true := by rw [beq_iff_eq]; exact hz
                rw [if_pos hz] at hg
                subst hg
                clear hz
                go_wp2
                go_ret
                exact ⟨rfl, rfl⟩
              · have hz1 : ((d - 1) == 0) = false := by rw [beq_eq_false_iff_ne]; exact hz
                rw [if_neg hz] at hg
                have HG2 := Lib.hid hg; clear hg hz
                go_wp2
                go_round
                case rel => exact ⟨j + 1, d - 1, by omega, by go_num, by go_num, by omega, by omega, HG2.out⟩
                case measure => simp [intOf]; omega
          · skip
            cases b4
            · skip
              cases b5
              · skip
                have eo : o = d + 1 := by rw [← ho]; simp
                have hg := HG.out
                rw [eo] at hg
                clear ho eo HG
                by_cases hz : d + 1 = 0
                · have hz1 : ((d + 1) == 0) = true := by rw [beq_iff_eq]; exact hz
                  rw [if_pos hz] at hg
                  subst hg
                  clear hz
                  go_wp2
                  go_ret
                  exact ⟨rfl, rfl⟩
                · have hz1 : ((d + 1) == 0) = false := by rw [beq_eq_false_iff_ne]; exact hz
                  rw [if_neg hz] at hg
                  have HG2 := Lib.hid hg; clear hg hz
                  go_wp2
                  go_round
                  case rel => exact ⟨j + 1, d + 1, by omega, by go_num, by go_num, by omega, by omega, HG2.out⟩
                  case measure => simp [intOf]; omega
              · skip
                have eo : o = d + 1 - 1 := by rw [← ho]; simp
                have hg := HG.out
                rw [eo] at hg
                clear ho eo HG
                by_cases hz : d + 1 - 1 = 0
                · have hz1 : ((d + 1 - 1) == 0) = true := by rw [beq_iff_eq]; exact hz
                  rw [if_pos hz] at hg
                  subst hg
                  clear hz
                  go_wp2
                  go_ret
                  exact ⟨rfl, rfl⟩
                · have hz1 : ((d + 1 - 1) == 0) = false := by rw [beq_eq_false_iff_ne]; exact hz
                  rw [if_neg hz] at hg
                  have HG2 := Lib.hid hg; clear hg hz
                  go_wp2
                  go_round
                  case rel => exact ⟨j + 1, d + 1 - 1, by omega, by go_num, by go_num, by omega, by omega, HG2.out⟩
                  case measure => simp [intOf]; omega
            · skip
              have eo : o = d + 1 - 1 := by rw [← ho]; simp
              have hg := HG.out
              rw [eo] at hg
              clear ho eo HG
              by_cases hz : d + 1 - 1 = 0
              · have hz1 : ((d + 1 - 1) == 0) = true := by rw [beq_iff_eq]; exact hz
                rw [if_pos hz] at hg
                subst hg
                clear hz
                go_wp2
                go_ret
                exact ⟨rfl, rfl⟩
              · have hz1 : ((d + 1 - 1) == 0) = false := by rw [beq_eq_false_iff_ne]; exact hz
                rw [if_neg hz] at hg
                have HG2 := Lib.hid hg; clear hg hz
                go_wp2
                go_round
                case rel => exact ⟨j + 1, d + 1 - 1, by omega, by go_num, by go_num, by omega, by omega, HG2.out⟩
                case measure => simp [intOf]; omega
        · skip
          cases b4
          · skip
            cases b5
            · skip
              have eo : o = d + 1 := by rw [← ho]; simp
              have hg := HG.out
              rw [eo] at hg
              clear ho eo HG
              by_cases hz : d + 1 = 0
              · have hz1 : ((d + 1) == 0) = true := by rw [beq_iff_eq]; exact hz
                rw [if_pos hz] at hg
                subst hg
                clear hz
                go_wp2
                go_ret
                exact ⟨rfl, rfl⟩
              · have hz1 : ((d + 1) == 0) = false := by rw [beq_eq_false_iff_ne]; exact hz
                rw [if_neg hz] at hg
                have HG2 := Lib.hid hg; clear hg hz
                go_wp2
                go_round
                case rel => exact ⟨j + 1, d + 1, by omega, by go_num, by go_num, by omega, by omega, HG2.out⟩
                case measure => simp [intOf]; omega
            · skip
              have eo : o = d + 1 - 1 := by rw [← ho]; simp
              have hg := HG.out
              rw [eo] at hg
              clear ho eo HG
              by_cases hz : d + 1 - 1 = 0
              · have hz1 : ((d + 1 - 1) == 0) = true := by rw [beq_iff_eq]; exact hz
                rw [if_pos hz] at hg
                subst hg
                clear hz
                go_wp2
                go_ret
                exact ⟨rfl, rfl⟩
              · have hz1 : ((d + 1 - 1) == 0) = false := by rw [beq_eq_false_iff_ne]; exact hz
                rw [if_neg hz] at hg
                have HG2 := Lib.hid hg; clear hg hz
                go_wp2
                go_round
                case rel => exact ⟨j + 1, d + 1 - 1, by omega, by go_num, by go_num, by omega, by omega, HG2.out⟩
                case measure => simp [intOf]; omega
          · skip
            have eo : o = d + 1 - 1 := by rw [← ho]; simp
            have hg := HG.out
            rw [eo] at hg
            clear ho eo HG
            by_cases hz : d + 1 - 1 = 0
            · have hz1 : ((d + 1 - 1) == 0) = true := by rw [beq_iff_eq]; exact hz
              rw [if_pos hz] at hg
              subst hg
              clear hz
              go_wp2
              go_ret
              exact ⟨rfl, rfl⟩
            · have hz1 : ((d + 1 - 1) == 0) = false := by rw [beq_eq_false_iff_ne]; exact hz
              rw [if_neg hz] at hg
              have HG2 := Lib.hid hg; clear hg hz
              go_wp2
              go_round
              case rel => exact ⟨j + 1, d + 1 - 1, by omega, by go_num, by go_num, by omega, by omega, HG2.out⟩
              case measure => simp [intOf]; omega
      · skip
        cases b4
        · skip
          cases b5
          · skip
            have eo : o = d + 1 := by rw [← ho]; simp
            have hg := HG.out
            rw [eo] at hg
            clear ho eo HG
            by_cases hz : d + 1 = 0
            · have hz1 : ((d + 1) == 0) = true := by rw [beq_iff_eq]; exact hz
              rw [if_pos hz] at hg
              subst hg
              clear hz
              go_wp2
              go_ret
              exact ⟨rfl, rfl⟩
            · have hz1 : ((d + 1) == 0) = false := by rw [beq_eq_false_iff_ne]; exact hz
              rw [if_neg hz] at hg
              have HG2 := Lib.hid hg; clear hg hz
              go_wp2
              go_round
              case rel => exact ⟨j + 1, d + 1, by omega, by go_num, by go_num, by omega, by omega, HG2.out⟩
              case measure => simp [intOf]; omega
          · skip
            have eo : o = d + 1 - 1 := by rw [← ho]; simp
            have hg := HG.out
            rw [eo] at hg
            clear ho eo HG
            by_cases hz : d + 1 - 1 = 0
            · have hz1 : ((d + 1 - 1) == 0) = true := by rw [beq_iff_eq]; exact hz
              rw [if_pos hz] at hg
              subst hg
              clear hz
              go_wp2
              go_ret
              exact ⟨rfl, rfl⟩
            · have hz1 : ((d + 1 - 1) == 0) = false := by rw [beq_eq_false_iff_ne]; exact hz
              rw [if_neg hz] at hg
              have HG2 := Lib.hid hg; clear hg hz
              go_wp2
              go_round
              case rel => exact ⟨j + 1, d + 1 - 1, by omega, by go_num, by go_num, by omega, by omega, HG2.out⟩
              case measure => simp [intOf]; omega
        · skip
          have eo : o = d + 1 - 1 := by rw [← ho]; simp
          have hg := HG.out
          rw [eo] at hg
          clear ho eo HG
          by_cases hz : d + 1 - 1 = 0
          · have hz1 : ((d + 1 - 1) == 0) = true := by rw [beq_iff_eq]; exact hz
            rw [if_pos hz] at hg
            subst hg
            clear hz
            go_wp2
            go_ret
            exact ⟨rfl, rfl⟩
          · have hz1 : ((d + 1 - 1) == 0) = false := by rw [beq_eq_false_iff_ne]; exact hz
            rw [if_neg hz] at hg
            have HG2 := Lib.hid hg; clear hg hz
            go_wp2
            go_round
            case rel => exact ⟨j + 1, d + 1 - 1, by omega, by go_num, by go_num, by omega, by omega, HG2.out⟩
            case measure => simp [intOf]; omega
    · obtain rfl : j = n := by omega
      rw [Nat.sub_self, closeGo, hlen] at hg
      subst hg
      go_wp2
      go_ret
      exact ⟨rfl, rfl⟩
end Go.Proofs.YtamnhnleipnhdaaDoor

/-
  A slice of a slice, where an element is one cell: its run as an equation; what it holds.
-/
namespace Go.Proofs.YtamnhnleipnhdaaDoor

open Go.RowKit

theorem cut_from {P : Program} (t e : TypeId) (h : P.underlying t = some (.slice e)) (_he : P.elem t = e) (hs : (P.info? e).map (·.size) = some 1) (A : Option Addr) (n c p : Nat) (hp : p ≤ n) (w : World) :
    (Instr.sliceAt t (.slice A n c) (some (.int .i64 (p : Nat))) none none).run P w = .ok (.slice (if c = p then A else A.map (·.add (p * 1))) (n - p) (c - p)) w := by
  have e1 : (sizeOf e).run P w = .ok 1 w := by
    cases hi : P.info? e with
    | none => rw [hi] at hs; cases hs
    | some i =>
      rw [hi] at hs
      simp only [Option.map_some, Option.some.injEq] at hs
      simp [sizeOf, run_typeInfo _ hi, hs]
  have h0 : (0 : Int) ≤ (p : Nat) := by omega
  have h1 : ((p : Nat) : Int) ≤ (n : Nat) := by omega
  simp [Instr.sliceAt, Instr.slice, run_underlying h, Instr.sliceBounds, run_sliceBound, h0, h1, e1]
theorem cut_to {P : Program} (t e : TypeId) (h : P.underlying t = some (.slice e)) (_he : P.elem t = e) (hs : (P.info? e).map (·.size) = some 1) (A : Option Addr) (n c p : Nat) (hp : p ≤ c) (w : World) :
    (Instr.sliceAt t (.slice A n c) none (some (.int .i64 (p : Nat))) none).run P w = .ok (.slice (if c = 0 then A else A.map (·.add (0 * 1))) p c) w := by
  have e1 : (sizeOf e).run P w = .ok 1 w := by
    cases hi : P.info? e with
    | none => rw [hi] at hs; cases hs
    | some i =>
      rw [hi] at hs
      simp only [Option.map_some, Option.some.injEq] at hs
      simp [sizeOf, run_typeInfo _ hi, hs]
  have h0 : (0 : Int) ≤ (p : Nat) := by omega
  have h1 : ((p : Nat) : Int) ≤ (c : Nat) := by omega
  simp [Instr.sliceAt, Instr.slice, run_underlying h, Instr.sliceBounds, run_sliceBound, h0, h1, e1]

/-- What stands from place p on. -/
theorem Sl.from_ {w : World} {A : Option Addr} {n c : Nat} {vs : List Value} (h : Sl w 1 A n c vs) (hc : n ≤ c) {p : Nat} (hp : p ≤ n) : Sl w 1 (if c = p then A else A.map (·.add (p * 1))) (n - p) (c - p) (vs.drop p) := by
  have hl : vs.length = n := by have := h.1; omega
  refine ⟨by rw [List.length_drop]; omega, fun e => ?_, fun ad ha j u hu => ?_⟩
  · cases A with
    | none => have := h.2.1 rfl; omega
    | some a =>
      rw [Option.map_some] at e
      split at e <;> cases e
  · have hj : j < n - p := by
      have := (List.getElem?_eq_some_iff.1 hu).1
      rw [List.length_drop] at this
      omega
    rw [List.getElem?_drop] at hu
    rw [if_neg (by omega)] at ha
    cases A with
    | none => cases ha
    | some a =>
      rw [Option.map_some] at ha
      injection ha with ha
      subst ha
      have h0 := h.2.2 a rfl (p + j) u hu
      have e : (a.add (p * 1)).add j = a.add (p + j) := by
        unfold Addr.add
        by_cases h1 : p = 0
        · subst h1; simp
        · by_cases h2 : j = 0
          · subst h2; simp [h1]
          · simp [h1, h2, Nat.add_assoc]
      rw [e]
      exact h0
/-- What stands ahead of place p. -/
theorem Sl.to_ {w : World} {A : Option Addr} {n c : Nat} {vs : List Value} (h : Sl w 1 A n c vs) {p : Nat} (hp : p ≤ n) : Sl w 1 (if c = 0 then A else A.map (·.add (0 * 1))) p c (vs.take p) := by
  have hl : vs.length = n := by have := h.1; omega
  refine ⟨by rw [List.length_take]; omega, fun e => ?_, fun ad ha j u hu => ?_⟩
  · cases A with
    | none => have := h.2.1 rfl; omega
    | some a =>
      rw [Option.map_some] at e
      split at e <;> cases e
  · have hj : j < p := by
      have := (List.getElem?_eq_some_iff.1 hu).1
      rw [List.length_take] at this
      omega
    rw [List.getElem?_take_of_lt hj] at hu
    cases A with
    | none => split at ha <;> cases ha
    | some a =>
      rw [Option.map_some] at ha
      have e : (a.add (0 * 1)) = a := by unfold Addr.add; simp
      rw [e] at ha
      have ha' : ad = a := by split at ha <;> (injection ha with ha; exact ha.symm)
      subst ha'
      exact h.2.2 ad rfl j u hu
/-- Its address lies in the block of what it was cut from. -/
theorem from_block {A : Option Addr} {c p : Nat} : ∀ a', (if c = p then A else A.map (·.add (p * 1))) = some a' → ∃ a, A = some a ∧ a'.block = a.block := by
  intro a' h
  cases A with
  | none => split at h <;> cases h
  | some a =>
    refine ⟨a, rfl, ?_⟩
    rw [Option.map_some] at h
    split at h <;> (injection h with h; rw [← h])
    unfold Addr.add
    split <;> rfl
end Go.Proofs.YtamnhnleipnhdaaDoor

/-
  A packet that is gone through: what there is of it, and what one variable does.
-/
namespace Go.Proofs.YtamnhnleipnhdaaDoor

open Go.RowKit

open BitsM

/-- What linesideref05.Walk holds. -/
structure WS where
  V : List Int
  rd : Bool
  bits : List Bool
  out : List (Int × Int)
  got : List Int
  e : Int
  place : Int

/-- The next number: of the bits, of the numbers; of the length's place none. -/
def fetch (v : Int) (s : WS) : Int × WS :=
  if s.rd = true then (if s.bits.length < widthOf v then (0, { s with e := 10 }) else ((num (s.bits.take (widthOf v)) : Nat), { s with bits := s.bits.drop (widthOf v) }))
  else if v = 7 then (0, s) else if s.V = [] then (0, { s with e := 20 }) else (s.V.headD 0, { s with V := s.V.tail })
/-- What is done with it. -/
def keep (v n : Int) (s : WS) : WS :=
  if v = 7 then { s with place := s.out.length, out := s.out ++ [(n, (widthOf v : Int))] } else if v = 5 then { s with out := s.out ++ [(n, (widthOf v : Int))] } else { s with got := s.got ++ [n], out := s.out ++ [(n, (widthOf v : Int))] }
def oneS (v : Int) (s : WS) : Int × WS :=
  if s.e ≠ 0 then (0, s) else if (fetch v s).2.e ≠ 0 then (0, (fetch v s).2) else if mayOf v (fetch v s).1 = false then (0, { (fetch v s).2 with e := 20 }) else ((fetch v s).1, keep v (fetch v s).1 (fetch v s).2)

def ints (l : List Int) : List Value := l.map (.int .i64)
def pairs (l : List (Int × Int)) : List Value := l.flatMap fun x => [.int .i64 x.1, .int .i64 x.2]
def low (base : Nat) (A : Option Addr) : Prop := ∀ a, A = some a → a.block < base
/-- A slice below base that holds these integers. -/
structure SlI (base : Nat) (w : World) (A : Option Addr) (m c : Nat) (l : List Int) : Prop where
  len : l.length = m
  cap : m ≤ c
  sl : Sl w 1 A m c (ints l)
  low : 0 < c → low base A
structure SlL (base : Nat) (w : World) (A : Option Addr) (m c : Nat) (l : List Bool) : Prop where
  sl : SlB w A m c l
  cap : m ≤ c
  low : low base A
/-- What linesideref05.Walk's slices hold, but for its own block. -/
structure WkR (base : Nat) (w : World) (s : WS) (AV : Option Addr) (nV cV : Nat) (AB : Option Addr) (nB cB : Nat) (AO : Option Addr) (nO cO : Nat) (AG : Option Addr) (nG cG : Nat) : Prop where
  v : SlI base w AV nV cV s.V
  b : SlL base w AB nB cB s.bits
  lo : s.out.length = nO
  lg : s.got.length = nG
  o : w.ownsRow base 53 2 (.slice AO nO cO) nO (pairs s.out)
  g : w.ownsRow base 3 1 (.slice AG nG cG) nG (ints s.got)
def wkCells (s : WS) (AV : Option Addr) (nV cV : Nat) (AB : Option Addr) (nB cB : Nat) (AO : Option Addr) (nO cO : Nat) (AG : Option Addr) (nG cG : Nat) : Array Value :=
  #[.slice AV nV cV, .bool s.rd, .slice AB nB cB, .slice AO nO cO, .slice AG nG cG, .int .i64 s.e, .int .i64 s.place]
/-- linesideref05.Walk in block g. -/
def WkAt (base g : Nat) (w : World) (s : WS) : Prop := base ≤ g ∧ ∃ AV nV cV AB nB cB AO nO cO AG nG cG, Has w g 110 (wkCells s AV nV cV AB nB cB AO nO cO AG nG cG) ∧ WkR base w s AV nV cV AB nB cB AO nO cO AG nG cG

theorem add_block (a : Addr) (j : Nat) : (a.add j).block = a.block := by unfold Addr.add; split <;> rfl
theorem low_sl {w w' : World} {A : Option Addr} {m c size : Nat} {vs : List Value} {base : Nat} (h : Sl w size A m c vs) (hl : low base A) (hb : Below base w w') : Sl w' size A m c vs :=
  ⟨h.1, h.2.1, fun ad ha j u hu => by have h0 := h.2.2 ad ha j u hu; rw [hb.cell (by rw [add_block]; exact hl ad ha)]; exact h0⟩

section

variable {base g : Nat} {w w' : World} {s : WS} {AV : Option Addr} {nV cV : Nat} {AB : Option Addr} {nB cB : Nat} {AO : Option Addr} {nO cO : Nat} {AG : Option Addr} {nG cG : Nat}
theorem SlI.below {m c : Nat} {A : Option Addr} {l : List Int} (h : SlI base w A m c l) (hb : Below base w w') : SlI base w' A m c l := by
  refine ⟨h.len, h.cap, ?_, h.low⟩
  by_cases hc : 0 < c
  · exact low_sl h.sl (h.low hc) hb
  · have h0 : l = [] := List.eq_nil_of_length_eq_zero (by have := h.len; have := h.cap; omega)
    subst h0
    exact ⟨h.sl.1, h.sl.2.1, fun ad _ j u hu => by simp [ints] at hu⟩
theorem SlL.below {m c : Nat} {A : Option Addr} {l : List Bool} (h : SlL base w A m c l) (hb : Below base w w') : SlL base w' A m c l := ⟨⟨h.sl.1, low_sl h.sl.2 h.low hb⟩, h.cap, h.low⟩
/-- A call that leaves what there was leaves it. -/
theorem WkR.under (h : WkR base w s AV nV cV AB nB cB AO nO cO AG nG cG) (hb : Below w.heap.size w w') (hB : base ≤ w.heap.size) : WkR base w' s AV nV cV AB nB cB AO nO cO AG nG cG :=
  ⟨h.v.below (hb.mono hB), h.b.below (hb.mono hB), h.lo, h.lg, own_under h.o hb (Nat.le_refl _), own_under h.g hb (Nat.le_refl _)⟩
theorem below_store (hg : base ≤ g) (hB : base ≤ w.heap.size) (i : Nat) (u : Value) : Below base w (w.setCell ⟨g, i, none⟩ u) :=
  (Below.refl base w).grown (row := some g) (only_store (only_refl w (some g)) rfl u) hB (fun k hk => by injection hk with hk; omega)
/-- A store into Walk's own block leaves its slices. -/
theorem WkR.store {cs : Array Value} (h : WkR base w s AV nV cV AB nB cB AO nO cO AG nG cG) (hh : Has w g 110 cs) (hg : base ≤ g) (hB : base ≤ w.heap.size) (i : Nat) (u : Value) : WkR base (w.setCell ⟨g, i, none⟩ u) s AV nV cV AB nB cB AO nO cO AG nG cG := by
  have hgr : w.grownBy (w.setCell ⟨g, i, none⟩ u) (some g) := only_store (only_refl w (some g)) rfl u
  have hb : Below base w (w.setCell ⟨g, i, none⟩ u) := (Below.refl base w).grown hgr hB (fun k hk => by injection hk with hk; omega)
  exact ⟨h.v.below hb, h.b.below hb, h.lo, h.lg, own_keep h.o hgr (own_apart h.o hh (by decide)), own_keep h.g hgr (own_apart h.g hh (by decide))⟩
end

set_option maxHeartbeats 1000000 in
theorem one_done (base g : Nat) (v : Int) (s : WS) (w : World) (h : WkAt base g w s) (he : s.e ≠ 0) :
    Calls Tryd.prog 77 #[.pointer (some ⟨g, 0, none⟩), .int .i64 v] w fun e w' => e = .returned (.int .i64 0) ∧ w = w' := by
  obtain ⟨hg, AV, nV, cV, AB, nB, cB, AO, nO, cO, AG, nG, cG, hh, hr⟩ := h
  have q5 : w.cell? ⟨g, 5, none⟩ = some (.int .i64 s.e) := hh.cell 5
  have h1 : (s.e != 0) = true := by simp [he]
  clear hh hr
  go_enter Tryd.func77, Tryd.ntmps77
  go_wp2
  go_ret
  exact ⟨rfl, rfl⟩

theorem width_one (v : Int) (h0 : 0 ≤ v) (h1 : v < 96) : 1 ≤ widthOf v ∧ widthOf v ≤ 32 := by
  have h := vall (fun n => decide (1 ≤ widthOf n) && decide (widthOf n ≤ 32)) (by kernel_rfl) v h0 h1
  rw [Int.toNat_of_nonneg h0] at h
  simpa using h

/-- What lies in a row of strings stays. -/
def KeepStr (w w' : World) : Prop := ∀ (k : Nat) (cs : Array Value) (fr : Nat × Nat), w.heap[k]? = some (.cells cs 9 fr) → w'.heap[k]? = some (.cells cs 9 fr)
/-- What there was below base stays, and what lies in a row of strings. -/
structure Fr (base : Nat) (w w' : World) : Prop where
  b : Below base w w'
  k : KeepStr w w'
theorem Fr.refl (base : Nat) (w : World) : Fr base w w := ⟨Below.refl _ _, fun _ _ _ h => h⟩
theorem Fr.trans {base : Nat} {a b c : World} (h : Fr base a b) (k : Fr base b c) : Fr base a c := ⟨h.b.trans k.b, fun i cs fr x => k.k i cs fr (h.k i cs fr x)⟩
theorem Fr.size {base : Nat} {a b : World} (h : Fr base a b) : a.heap.size ≤ b.heap.size := h.b.size
theorem keep_call {w w' : World} (hb : Below w.heap.size w w') : KeepStr w w' := fun k cs fr h => by
  have hk : k < w.heap.size := (Array.getElem?_eq_some_iff.1 h).1
  rw [hb.block k hk]; exact h
theorem fr_call {base : Nat} {w w' : World} (hb : Below w.heap.size w w') (hB : base ≤ w.heap.size) : Fr base w w' := ⟨hb.mono hB, keep_call hb⟩
theorem fr_draws {base : Nat} (w : World) (n : Nat) : Fr base w (w.drewN n) := ⟨below_draws (Below.refl _ _) n, fun _ _ _ h => h⟩
theorem Fr.alloc {base : Nat} {a w : World} (h : Fr base a w) (hB : base ≤ w.heap.size) (o : Obj) : Fr base a (w.alloc o) := h.trans (fr_call ((Below.refl _ w).alloc (Nat.le_refl _) o) hB)
theorem keep_grow {w w' : World} {row : Option Nat} (hg : w.grownBy w' row) (hr : ∀ k cs fr, w.heap[k]? = some (.cells cs 9 fr) → some k ≠ row) : KeepStr w w' := fun k cs fr h => by
  rw [hg.block k (Array.getElem?_eq_some_iff.1 h).1 (hr k cs fr h)]; exact h
theorem fr_store {base g : Nat} {w : World} {cs : Array Value} (hh : Has w g 110 cs) (hg : base ≤ g) (hB : base ≤ w.heap.size) (i : Nat) (u : Value) : Fr base w (w.setCell ⟨g, i, none⟩ u) := by
  refine ⟨below_store hg hB i u, keep_grow (row := some g) (only_store (only_refl w (some g)) rfl u) ?_⟩
  intro k cs' fr h e
  injection e with e
  subst e
  unfold Has at hh
  rw [hh] at h
  injection h with h
  injection h with _ h
  exact absurd h (by decide)
theorem own_nostr {w : World} {base n sz : Nat} {e : TypeId} {v : Value} {xs : List Value} (h : w.ownsRow base e sz v n xs) (hne : e ≠ 9) : ∀ k cs fr, w.heap[k]? = some (.cells cs 9 fr) → some k ≠ v.ownBlock := by
  intro k cs fr hk he
  rcases h.2 with ⟨rfl, _⟩ | ⟨g, cap, cur, rfl, _, hh, _⟩
  · simp [Value.ownBlock] at he
  · have e' : k = g := by simpa [Value.ownBlock] using he
    subst e'
    rw [hh] at hk
    injection hk with hk
    injection hk with _ hk
    exact absurd hk hne

theorem own_two {w : World} {base n1 n2 s1 s2 : Nat} {e1 e2 : TypeId} {v1 v2 : Value} {x1 x2 : List Value} (h1 : w.ownsRow base e1 s1 v1 n1 x1) (h2 : w.ownsRow base e2 s2 v2 n2 x2) (hne : e1 ≠ e2) : v1.ownBlock = none ∨ v1.ownBlock ≠ v2.ownBlock := by
  rcases h2.2 with ⟨rfl, _⟩ | ⟨g, cap, cur, rfl, _, hh, _⟩
  · cases h : v1.ownBlock
    · exact .inl rfl
    · exact .inr (by simp [Value.ownBlock])
  · exact .inr (own_apart h1 hh hne)
theorem info_int : (Tryd.prog.info? 3).map (fun i => (i.zero, i.size, i.bytes)) = some (some (.int .i64 0), 1, 8) := by kernel_rfl
theorem info_bits : (Tryd.prog.info? 53).map (fun i => (i.zero, i.size, i.bytes)) = some (some (.agg #[.int .i64 0, .int .i64 0]), 2, 16) := by kernel_rfl
theorem cell_news (w : World) (cs : Array Value) (t : TypeId) (l : List Value) (h : cs = l.toArray) : Hid (∀ i u, l[i]? = some u → (w.alloc (.cells cs t)).cell? ((⟨w.heap.size, 0, none⟩ : Addr).add i) = some u) := by
  subst h
  intro i u hu
  rw [WideShapes.add_plain, (Has.made w t _).cell, Nat.zero_add]
  simpa using hu
theorem ints_one (l : List Int) : ∀ v ∈ ints l, v.oneCell' = true := by
  intro v hv
  simp only [ints, List.mem_map] at hv
  obtain ⟨b, _, rfl⟩ := hv
  rfl
section

variable {base g : Nat} {w w' : World} {s : WS} {AV : Option Addr} {nV cV : Nat} {AB : Option Addr} {nB cB : Nat} {AO : Option Addr} {nO cO : Nat} {AG : Option Addr} {nG cG : Nat}
/-- A call's own append to the numbers got. -/
theorem WkR.growG (h : WkR base w s AV nV cV AB nB cB AO nO cO AG nG cG) (hB : base ≤ w.heap.size) (n : Int) (A' : Option Addr) (c' : Nat) (ho : w'.ownsRow base 3 1 (.slice A' (nG + 1) c') (nG + 1) (ints s.got ++ [.int .i64 n])) (hg : w.grownBy w' (Value.ownBlock (.slice AG nG cG))) :
    WkR base w' { s with got := s.got ++ [n] } AV nV cV AB nB cB AO nO cO A' (nG + 1) c' ∧ Fr base w w' := by
  have hb : Below base w w' := below_own (Below.refl base w) hB h.g (Nat.le_refl _) rfl hg
  refine ⟨⟨h.v.below hb, h.b.below hb, h.lo, by simp [h.lg], World.ownsRow.kept h.o hg (own_two h.o h.g (by decide)), ?_⟩, hb, keep_grow hg (own_nostr h.g (by decide))⟩
  simpa [ints] using ho
/-- .. to what goes out. -/
theorem WkR.growO (h : WkR base w s AV nV cV AB nB cB AO nO cO AG nG cG) (hB : base ≤ w.heap.size) (n k : Int) (A' : Option Addr) (c' : Nat) (ho : w'.ownsRow base 53 2 (.slice A' (nO + 1) c') (nO + 1) (pairs s.out ++ [.int .i64 n, .int .i64 k])) (hg : w.grownBy w' (Value.ownBlock (.slice AO nO cO))) :
    WkR base w' { s with out := s.out ++ [(n, k)] } AV nV cV AB nB cB A' (nO + 1) c' AG nG cG ∧ Fr base w w' := by
  have hb : Below base w w' := below_own (Below.refl base w) hB h.o (Nat.le_refl _) rfl hg
  refine ⟨⟨h.v.below hb, h.b.below hb, by simp [h.lo], h.lg, ?_, World.ownsRow.kept h.g hg (own_two h.g h.o (by decide))⟩, hb, keep_grow hg (own_nostr h.o (by decide))⟩
  simpa [pairs] using ho
theorem WkR.beside (h : WkR base w s AV nV cV AB nB cB AO nO cO AG nG cG) (hB : base ≤ w.heap.size) (o : Obj) : WkR base (w.alloc o) s AV nV cV AB nB cB AO nO cO AG nG cG :=
  h.under ((Below.refl _ w).alloc (Nat.le_refl _) o) hB
end

set_option maxRecDepth 100000 in
set_option maxHeartbeats 8000000 in
theorem one_live (base g : Nat) (v : Int) (s : WS) (w : World) (h : WkAt base g w s) (hB : base ≤ w.heap.size) (he : s.e = 0) (hv0 : 0 ≤ v) (hv1 : v < 96) (hbits : s.bits.length ≤ 1048576) (ho : s.out.length ≤ 1048576) (hgo : s.got.length ≤ 1048576) (hV : s.V.length ≤ 1048576) :
    Calls Tryd.prog 77 #[.pointer (some ⟨g, 0, none⟩), .int .i64 v] w fun e w' => e = .returned (.int .i64 (oneS v s).1) ∧ WkAt base g w' (oneS v s).2 ∧ Fr base w w' := by
  obtain ⟨k1, k2⟩ := width_one v hv0 hv1
  obtain ⟨M, hM⟩ : ∃ M, oneS v s = M := ⟨_, rfl⟩
  rw [hM]
  rw [oneS, if_neg (by simp [he])] at hM
  have HM := Lib.hid hM; clear hM
  obtain ⟨hg, AV, nV, cV, AB, nB, cB, AO, nO, cO, AG, nG, cG, hh, hr⟩ := h
  have q5 : w.cell? ⟨g, 5, none⟩ = some (.int .i64 0) := by rw [← he]; exact hh.cell 5
  have HH := Lib.hid hh; have HR := Lib.hid hr; clear hh hr
  go_enter Tryd.func77, Tryd.ntmps77
  go_wp2_with fail
  refine (ref_width v w).mono ?_
  rintro e w1 ⟨rfl, b1⟩
  have HB1 := Lib.hid (fr_call b1 hB)
  have hB1 : base ≤ w1.heap.size := Nat.le_trans hB b1.size
  have HH1 := Lib.hid (HH.out.under b1 HH.out.lt)
  have HR1 := Lib.hid (HR.out.under b1 hB)
  clear b1 q5 HH HR
  obtain ⟨k, hk⟩ : ∃ k, widthOf v = k := ⟨_, rfl⟩
  rw [hk] at k1 k2 ⊢
  have HK := Lib.hid hk; clear hk
  have q1 : w1.cell? ⟨g, 1, none⟩ = some (.bool s.rd) := HH1.out.cell 1
  have q2 : w1.cell? ⟨g, 2, none⟩ = some (.slice AB nB cB) := HH1.out.cell 2
  have q0 : w1.cell? ⟨g, 0, none⟩ = some (.slice AV nV cV) := HH1.out.cell 0
  have z5 : w1.frozen? ⟨g, 5, none⟩ = false := HH1.out.thaw 5
  have z2 : w1.frozen? ⟨g, 2, none⟩ = false := HH1.out.thaw 2
  have z0 : w1.frozen? ⟨g, 0, none⟩ = false := HH1.out.thaw 0
  have hnB := HR1.out.b.sl.1
  have hnV := HR1.out.v.len
  have q2 : w1.cell? ⟨g, 2, none⟩ = some (.slice AB nB cB) := HH1.out.cell 2
  have q0 : w1.cell? ⟨g, 0, none⟩ = some (.slice AV nV cV) := HH1.out.cell 0
  have z5 : w1.frozen? ⟨g, 5, none⟩ = false := HH1.out.thaw 5
  have z2 : w1.frozen? ⟨g, 2, none⟩ = false := HH1.out.thaw 2
  have z0 : w1.frozen? ⟨g, 0, none⟩ = false := HH1.out.thaw 0
  have hnB := HR1.out.b.sl.1
  have hnV := HR1.out.v.len
  have q2 : w1.cell? ⟨g, 2, none⟩ = some (.slice AB nB cB) := HH1.out.cell 2
  have q0 : w1.cell? ⟨g, 0, none⟩ = some (.slice AV nV cV) := HH1.out.cell 0
  have q5 : w1.cell? ⟨g, 5, none⟩ = some (.int .i64 s.e) := HH1.out.cell 5
  have z5 : w1.frozen? ⟨g, 5, none⟩ = false := HH1.out.thaw 5
  have z2 : w1.frozen? ⟨g, 2, none⟩ = false := HH1.out.thaw 2
  have z0 : w1.frozen? ⟨g, 0, none⟩ = false := HH1.out.thaw 0
  have hnB := HR1.out.b.sl.1
  have hnV := HR1.out.v.len
  have q2 : w1.cell? ⟨g, 2, none⟩ = some (.slice AB nB cB) := HH1.out.cell 2
  have q0 : w1.cell? ⟨g, 0, none⟩ = some (.slice AV nV cV) := HH1.out.cell 0
  have q5 : w1.cell? ⟨g, 5, none⟩ = some (.int .i64 s.e) := HH1.out.cell 5
  have z5 : w1.frozen? ⟨g, 5, none⟩ = false := HH1.out.thaw 5
  have z2 : w1.frozen? ⟨g, 2, none⟩ = false := HH1.out.thaw 2
  have z0 : w1.frozen? ⟨g, 0, none⟩ = false := HH1.out.thaw 0
  have hnB := HR1.out.b.sl.1
  have hnV := HR1.out.v.len
  have q2 : w1.cell? ⟨g, 2, none⟩ = some (.slice AB nB cB) := HH1.out.cell 2
  have q0 : w1.cell? ⟨g, 0, none⟩ = some (.slice AV nV cV) := HH1.out.cell 0
  have q5 : w1.cell? ⟨g, 5, none⟩ = some (.int .i64 s.e) := HH1.out.cell 5
  have z5 : w1.frozen? ⟨g, 5, none⟩ = false := HH1.out.thaw 5
  have z2 : w1.frozen? ⟨g, 2, none⟩ = false := HH1.out.thaw 2
  have z0 : w1.frozen? ⟨g, 0, none⟩ = false := HH1.out.thaw 0
  have hnB := HR1.out.b.sl.1
  have hnV := HR1.out.v.len
  have q2 : w1.cell? ⟨g, 2, none⟩ = some (.slice AB nB cB) := HH1.out.cell 2
  have q0 : w1.cell? ⟨g, 0, none⟩ = some (.slice AV nV cV) := HH1.out.cell 0
  have q5 : w1.cell? ⟨g, 5, none⟩ = some (.int .i64 s.e) := HH1.out.cell 5
  have z5 : w1.frozen? ⟨g, 5, none⟩ = false := HH1.out.thaw 5
  have z2 : w1.frozen? ⟨g, 2, none⟩ = false := HH1.out.thaw 2
  have z0 : w1.frozen? ⟨g, 0, none⟩ = false := HH1.out.thaw 0
  have hnB := HR1.out.b.sl.1
  have hnV := HR1.out.v.len
  have q2 : w1.cell? ⟨g, 2, none⟩ = some (.slice AB nB cB) := HH1.out.cell 2
  have q0 : w1.cell? ⟨g, 0, none⟩ = some (.slice AV nV cV) := HH1.out.cell 0
  have q5 : w1.cell? ⟨g, 5, none⟩ = some (.int .i64 s.e) := HH1.out.cell 5
  have z5 : w1.frozen? ⟨g, 5, none⟩ = false := HH1.out.thaw 5
  have z2 : w1.frozen? ⟨g, 2, none⟩ = false := HH1.out.thaw 2
  have z0 : w1.frozen? ⟨g, 0, none⟩ = false := HH1.out.thaw 0
  have hnB := HR1.out.b.sl.1
  have hnV := HR1.out.v.len
  go_upto_if 21 with fail
  go_cut [6] (fun n6 wx => ∃ (n1 : Int) (s1 : WS), n6 = .int .i64 n1 ∧ fetch v s = (n1, s1) ∧ s1.e = 0 ∧ s1.out.length ≤ 1048576 ∧ s1.got.length ≤ 1048576 ∧ WkAt base g wx s1 ∧ Fr base w1 wx)
  case first =>
    cases hrd : s.rd
    · rw [hrd] at q1
      by_cases h7 : v = 7
      · have hfe : fetch v s = (0, s) := by rw [fetch, if_neg (by rw [hrd]; decide), if_pos h7]
        have h71 : (v != 7) = false := by simp [h7]
        clear hrd
        go_wp2_with fail
        go_meet
        exact ⟨0, s, rfl, hfe, he, ho, hgo, ⟨hg, AV, nV, cV, AB, nB, cB, AO, nO, cO, AG, nG, cG, HH1.out, HR1.out⟩, Fr.refl _ _⟩
      · have h71 : (v != 7) = true := by simp [h7]
        by_cases hnil : s.V = []
        · have hfe : fetch v s = (0, { s with e := 20 }) := by rw [fetch, if_neg (by rw [hrd]; decide), if_neg h7, if_pos hnil]
          have hn0 : nV = 0 := by rw [← hnV, hnil]; rfl
          subst hn0
          have hM := HM.out
          rw [hfe, if_pos (show (20 : Int) ≠ 0 by decide)] at hM
          subst hM
          clear hrd hnil hfe
          go_wp2
          go_ret
          have hr := HR1.out.store HH1.out hg hB1 5 (.int .i64 20)
          exact ⟨rfl, ⟨hg, AV, 0, cV, AB, nB, cB, AO, nO, cO, AG, nG, cG, HH1.out.stored 5 (.int .i64 20), ⟨hr.v, hr.b, hr.lo, hr.lg, hr.o, hr.g⟩⟩, HB1.out.trans (fr_store HH1.out hg hB1 _ _)⟩
        · obtain ⟨V0, VT, hVc⟩ : ∃ V0 VT, s.V = V0 :: VT := List.exists_cons_of_ne_nil hnil
          have hfe : fetch v s = (V0, { s with V := VT }) := by rw [fetch, if_neg (by rw [hrd]; decide), if_neg h7, if_neg hnil, hVc]; rfl
          obtain ⟨m, hm⟩ : ∃ m, nV = m + 1 := ⟨nV - 1, by rw [← hnV, hVc]; simp⟩
          subst hm
          have hne : (((m + 1 : Nat) : Int) == 0) = false := by rw [beq_eq_false_iff_ne]; omega
          obtain ⟨vb, voff, rfl, hcv⟩ := HR1.out.v.sl.at_ (j := 0) (u := .int .i64 V0) (by rw [hVc]; rfl)
          rw [Nat.add_zero] at hcv
          have hcapv := HR1.out.v.cap
          have hsl := HR1.out.v.sl.from_ hcapv (p := 1) (by omega)
          have hbk := from_block (A := some ⟨vb, voff, none⟩) (c := cV) (p := 1)
          obtain ⟨A2, hA2⟩ : ∃ A2, (if cV = 1 then some (⟨vb, voff, none⟩ : Addr) else (some (⟨vb, voff, none⟩ : Addr)).map (·.add (1 * 1))) = A2 := ⟨_, rfl⟩
          have e1 : ∀ w, (Instr.sliceAt 22 (.slice (some ⟨vb, voff, none⟩) (m + 1) cV) (some (.int .i64 1)) none none).run Tryd.prog w = .ok (.slice A2 m (cV - 1)) w := by
            intro w
            have := cut_from 22 3 Tryd.underlying22 (by kernel_rfl) (by kernel_rfl) (some ⟨vb, voff, none⟩) (m + 1) cV 1 (by omega) w
            rw [hA2] at this
            exact this
          rw [hA2] at hsl hbk
          have hlow : low base A2 := fun a' ha' => by
            obtain ⟨a, h1, h2⟩ := hbk a' ha'
            rw [h2]; exact HR1.out.v.low (by omega) a h1
          have hVT : SlI base w1 A2 m (cV - 1) VT := ⟨by have := hnV; rw [hVc] at this; simpa using this, by omega, by rw [hVc] at hsl; exact hsl, fun _ => hlow⟩
          have HVT := Lib.hid hVT
          have HFE := Lib.hid hfe; have HVC := Lib.hid hVc
          clear hVT hlow hsl hbk hA2 hnil hrd hfe hVc
          go_wp2_with fail
          go_meet
          have hr := HR1.out.store HH1.out hg hB1 0 (.slice A2 m (cV - 1))
          exact ⟨V0, { s with V := VT }, rfl, HFE.out, he, ho, hgo, ⟨hg, A2, m, cV - 1, AB, nB, cB, AO, nO, cO, AG, nG, cG, HH1.out.stored 0 _, ⟨HVT.out.below (below_store hg hB1 _ _), hr.b, hr.lo, hr.lg, hr.o, hr.g⟩⟩, fr_store HH1.out hg hB1 _ _⟩
    · rw [hrd] at q1
      by_cases hs : s.bits.length < k
      · have hfe : fetch v s = (0, { s with e := 10 }) := by rw [fetch, if_pos hrd, HK.out, if_pos hs]
        have hM := HM.out
        rw [hfe, if_pos (show (10 : Int) ≠ 0 by decide)] at hM
        have hc := refGet_short AB nB cB (k : Int) (by omega) (by omega) (by omega) w1
        subst hM
        clear hrd hfe
        go_wp2_with fail
        refine hc.mono ?_
        clear hc
        rintro e w' ⟨rfl, rfl⟩
        go_wp2
        go_ret
        have hr := HR1.out.store HH1.out hg hB1 5 (.int .i64 10)
        exact ⟨rfl, ⟨hg, AV, nV, cV, AB, nB, cB, AO, nO, cO, AG, nG, cG, HH1.out.stored 5 (.int .i64 10), ⟨hr.v, hr.b, hr.lo, hr.lg, hr.o, hr.g⟩⟩, HB1.out.trans (fr_store HH1.out hg hB1 _ _)⟩
      · have hfe : fetch v s = (((num (s.bits.take k) : Nat) : Int), { s with bits := s.bits.drop k }) := by rw [fetch, if_pos hrd, HK.out, if_neg hs]
        have HFE0 := Lib.hid hfe; clear hfe
        have HRD := Lib.hid hrd; clear hrd
        have hc := refGet_fits2 AB nB cB s.bits k (by omega) (by omega) (by omega) (by omega) HR1.out.b.cap w1 HR1.out.b.sl
        have HC := Lib.hid hc; clear hc
        go_wp2_with fail
        refine HC.out.mono ?_
        rintro e w' ⟨A2, rfl, hsl, ⟨nd, rfl⟩, hbk⟩
        have hlow : low base A2 := fun a' ha' => by
          obtain ⟨a, h1, h2⟩ := hbk a' ha'
          rw [h2]; exact HR1.out.b.low a h1
        have hSL : SlL base (w1.drewN nd) A2 (nB - k) (cB - k) (s.bits.drop k) := ⟨hsl, by have := HR1.out.b.cap; omega, hlow⟩
        have HSL := Lib.hid hSL
        have HH2 := Lib.hid (HH1.out.draws nd)
        have HR2 := Lib.hid (HR1.out.under (below_draws (Below.refl _ _) nd) hB1)
        have hb2 : base ≤ (w1.drewN nd).heap.size := hB1
        have hbd : Fr base w1 (w1.drewN nd) := fr_draws w1 nd
        have HBD := Lib.hid hbd
        clear hbk hlow hSL hsl HC hbd
        have HFE := HFE0; clear HFE0
        go_wp2_with fail
        go_meet
        have hr := HR2.out.store HH2.out hg hb2 2 (.slice A2 (nB - k) (cB - k))
        exact ⟨_, { s with bits := s.bits.drop k }, rfl, HFE.out, he, ho, hgo, ⟨hg, AV, nV, cV, A2, nB - k, cB - k, AO, nO, cO, AG, nG, cG, HH2.out.stored 2 _, ⟨hr.v, HSL.out.below (below_store hg hb2 _ _), hr.lo, hr.lg, hr.o, hr.g⟩⟩, HBD.out.trans (fr_store HH2.out hg hb2 _ _)⟩
  case rest =>
    clear q1 q2 q0 q5 z5 z2 z0
    obtain ⟨n1, s1, rfl, hfe, he1, ho1, hgo1, ⟨_, AV, nV, cV, AB, nB, cB, AO, nO, cO, AG, nG, cG, hh, hr⟩, hbc⟩ := hcut
    have hM := HM.out
    rw [hfe, if_neg (by simp [he1])] at hM
    have HBC := Lib.hid (HB1.out.trans hbc)
    have hBC : base ≤ wc.heap.size := Nat.le_trans hB1 hbc.size
    have HHC := Lib.hid hh; have HRC := Lib.hid hr
    have hloO := hr.lo
    have hlgG := hr.lg
    have cm := ref_may v n1 wc
    clear hfe hbc hh hr HH1 HR1 HM hnB hnV
    simp only at hM
    obtain ⟨mb, hmb⟩ : ∃ mb, mayOf v n1 = mb := ⟨_, rfl⟩
    rw [hmb] at hM cm
    clear hmb
    go_wp2_with fail
    refine cm.mono ?_
    clear cm
    rintro e w2 ⟨rfl, b2⟩
    have HB2 := Lib.hid (HBC.out.trans (fr_call b2 hBC))
    have hB2 : base ≤ w2.heap.size := Nat.le_trans hBC b2.size
    have HH2 := Lib.hid (HHC.out.under b2 HHC.out.lt)
    have HR2 := Lib.hid (HRC.out.under b2 hBC)
    clear b2 HHC HRC HBC
    cases mb
    · rw [if_pos rfl] at hM
      subst hM
      have q5 : w2.cell? ⟨g, 5, none⟩ = some (.int .i64 s1.e) := HH2.out.cell 5
      have z5 : w2.frozen? ⟨g, 5, none⟩ = false := HH2.out.thaw 5
      clear he1
      go_wp2
      go_ret
      have hr := HR2.out.store HH2.out hg hB2 5 (.int .i64 20)
      exact ⟨rfl, ⟨hg, AV, nV, cV, AB, nB, cB, AO, nO, cO, AG, nG, cG, HH2.out.stored 5 (.int .i64 20), ⟨hr.v, hr.b, hr.lo, hr.lg, hr.o, hr.g⟩⟩, HB2.out.trans (fr_store HH2.out hg hB2 _ _)⟩
    · rw [if_neg (by decide)] at hM
      rw [keep, HK.out] at hM
      by_cases h7 : v = 7
      · rw [if_pos h7] at hM
        have h71 : (v == 7) = true := by simp [h7]
        have p3 : w2.cell? ⟨g, 3, none⟩ = some (.slice AO nO cO) := HH2.out.cell 3
        have p6 : w2.cell? ⟨g, 6, none⟩ = some (.int .i64 s1.place) := HH2.out.cell 6
        have z6 : w2.frozen? ⟨g, 6, none⟩ = false := HH2.out.thaw 6
        have HHx : Hid (Has (w2.setCell ⟨g, 6, none⟩ (.int .i64 (nO : Int))) g 110 (wkCells { s1 with place := nO } AV nV cV AB nB cB AO nO cO AG nG cG)) := Lib.hid (HH2.out.stored 6 (.int .i64 (nO : Int)))
        have HRx := Lib.hid (HR2.out.store HH2.out hg hB2 6 (.int .i64 (nO : Int)))
        have hBx : base ≤ (w2.setCell ⟨g, 6, none⟩ (.int .i64 (nO : Int))).heap.size := Nat.le_trans hB2 (below_store hg hB2 6 _).size
        have HBx := Lib.hid (HB2.out.trans (fr_store HH2.out hg hB2 6 (.int .i64 (nO : Int))))
        rw [hloO] at hM
        subst hM
        clear h7 HH2 HR2 HB2 he1
        have hro := HRx.out.beside hBx (.cells #[.int .i64 n1, .int .i64 (k : Int)] 53)
        have HRB := Lib.hid hro
        have HHB := Lib.hid (HHx.out.beside (.cells #[.int .i64 n1, .int .i64 (k : Int)] 53))
        have hBB : base ≤ ((w2.setCell ⟨g, 6, none⟩ (.int .i64 (nO : Int))).alloc (.cells #[.int .i64 n1, .int .i64 (k : Int)] 53)).heap.size := by simp; omega
        have HBB := Lib.hid (HBx.out.alloc hBx (.cells #[.int .i64 n1, .int .i64 (k : Int)] 53))
        have HOO : Hid (((w2.setCell ⟨g, 6, none⟩ (.int .i64 (nO : Int))).alloc (.cells #[.int .i64 n1, .int .i64 (k : Int)] 53)).ownsRow base 53 2 (.slice AO nO cO) nO (pairs s1.out)) := Lib.hid hro.o
        have HNN := Lib.hid (show ([.int .i64 n1, .int .i64 (k : Int)] : List Value).length = 1 * 2 from rfl)
        have hcc := (cell_news (w2.setCell ⟨g, 6, none⟩ (.int .i64 (nO : Int))) #[.int .i64 n1, .int .i64 (k : Int)] 53 [.int .i64 n1, .int .i64 (k : Int)] rfl).out
        have hsz : (w2.setCell ⟨g, 6, none⟩ (.int .i64 (nO : Int))).heap.size = w2.heap.size := by simp
        rw [hsz] at hcc
        have HCC := Lib.hid hcc
        have HO1 : Hid (∀ u ∈ ([.int .i64 n1, .int .i64 (k : Int)] : List Value), u.oneCell' = true) := by
          intro u hu
          simp only [List.mem_cons, List.not_mem_nil, or_false] at hu
          rcases hu with rfl | rfl <;> rfl
        have HBD : Hid (nO + 1 ≤ maxLen ∧ (nO + 1) * 16 ≤ 140737488355328 ∧ base ≤ ((w2.setCell ⟨g, 6, none⟩ (.int .i64 (nO : Int))).alloc (.cells #[.int .i64 n1, .int .i64 (k : Int)] 53)).heap.size) := ⟨by unfold maxLen; omega, by omega, hBB⟩
        have q3 : (w2.setCell ⟨g, 6, none⟩ (.int .i64 (nO : Int))).cell? ⟨g, 3, none⟩ = some (.slice AO nO cO) := HHx.out.cell 3
        clear hro hcc hsz
        go_wp2_with (with_reducible refine wpList_push (o := ⟨some 107, _, _, _, _, _⟩) rfl (.tmp 102) (.tmp 106) 48 rfl base 53 (.agg #[.int .i64 0, .int .i64 0]) 2 16 Tryd.underlying48 info_bits ?hz7 (by decide) AO nO cO (pairs s1.out) ?hs7 HOO ⟨w2.heap.size, 0, none⟩ 1 1 [.int .i64 n1, .int .i64 (k : Int)] ?hx7 HNN HCC HO1 HBD ?next7)
        all_goals try rfl
        case next7 =>
          intro A4 c4 w4 ho4 hg4
          obtain ⟨hr4, hb4⟩ := HRB.out.growO hBB n1 k A4 c4 ho4.out hg4.out
          have HR4 := Lib.hid hr4
          have HH4 := Lib.hid (HHB.out.grow hg4.out (Ne.symm (own_apart HOO.out HHB.out (by decide))))
          have HB4 := Lib.hid (HBB.out.trans hb4)
          have hB4 : base ≤ w4.heap.size := Nat.le_trans hBB hb4.size
          have r3 : w4.cell? ⟨g, 3, none⟩ = some (.slice AO nO cO) := HH4.out.cell 3
          have z3 : w4.frozen? ⟨g, 3, none⟩ = false := HH4.out.thaw 3
          clear hr4 hb4 ho4 hg4
          go_wp2
          go_ret
          have hr := HR4.out.store HH4.out hg hB4 3 (.slice A4 (nO + 1) c4)
          exact ⟨rfl, ⟨hg, AV, nV, cV, AB, nB, cB, A4, nO + 1, c4, AG, nG, cG, HH4.out.stored 3 _, ⟨hr.v, hr.b, hr.lo, hr.lg, hr.o, hr.g⟩⟩, HB4.out.trans (fr_store HH4.out hg hB4 _ _)⟩
      · rw [if_neg h7] at hM
        have h71 : (v == 7) = false := by simp [h7]
        by_cases h5 : v = 5
        · rw [if_pos h5] at hM
          subst hM
          have h51 : (v != 5) = false := by simp [h5]
          have HHx := HH2; have HRx := HR2; have HBx := HB2
          have hBx := hB2
          clear h5 h7 he1
          have hro := HRx.out.beside hBx (.cells #[.int .i64 n1, .int .i64 (k : Int)] 53)
          have HRB := Lib.hid hro
          have HHB := Lib.hid (HHx.out.beside (.cells #[.int .i64 n1, .int .i64 (k : Int)] 53))
          have hBB : base ≤ (w2.alloc (.cells #[.int .i64 n1, .int .i64 (k : Int)] 53)).heap.size := by simp; omega
          have HBB := Lib.hid (HBx.out.alloc hBx (.cells #[.int .i64 n1, .int .i64 (k : Int)] 53))
          have HOO : Hid ((w2.alloc (.cells #[.int .i64 n1, .int .i64 (k : Int)] 53)).ownsRow base 53 2 (.slice AO nO cO) nO (pairs s1.out)) := Lib.hid hro.o
          have HNN := Lib.hid (show ([.int .i64 n1, .int .i64 (k : Int)] : List Value).length = 1 * 2 from rfl)
          have hcc := (cell_news w2 #[.int .i64 n1, .int .i64 (k : Int)] 53 [.int .i64 n1, .int .i64 (k : Int)] rfl).out
          have hsz : w2.heap.size = w2.heap.size := by simp
          rw [hsz] at hcc
          have HCC := Lib.hid hcc
          have HO1 : Hid (∀ u ∈ ([.int .i64 n1, .int .i64 (k : Int)] : List Value), u.oneCell' = true) := by
            intro u hu
            simp only [List.mem_cons, List.not_mem_nil, or_false] at hu
            rcases hu with rfl | rfl <;> rfl
          have HBD : Hid (nO + 1 ≤ maxLen ∧ (nO + 1) * 16 ≤ 140737488355328 ∧ base ≤ (w2.alloc (.cells #[.int .i64 n1, .int .i64 (k : Int)] 53)).heap.size) := ⟨by unfold maxLen; omega, by omega, hBB⟩
          have q3 : w2.cell? ⟨g, 3, none⟩ = some (.slice AO nO cO) := HHx.out.cell 3
          clear hro hcc hsz
          go_wp2_with (with_reducible refine wpList_push (o := ⟨some 107, _, _, _, _, _⟩) rfl (.tmp 102) (.tmp 106) 48 rfl base 53 (.agg #[.int .i64 0, .int .i64 0]) 2 16 Tryd.underlying48 info_bits ?hz5 (by decide) AO nO cO (pairs s1.out) ?hs5 HOO ⟨w2.heap.size, 0, none⟩ 1 1 [.int .i64 n1, .int .i64 (k : Int)] ?hx5 HNN HCC HO1 HBD ?next5)
          all_goals try rfl
          case next5 =>
            intro A4 c4 w4 ho4 hg4
            obtain ⟨hr4, hb4⟩ := HRB.out.growO hBB n1 k A4 c4 ho4.out hg4.out
            have HR4 := Lib.hid hr4
            have HH4 := Lib.hid (HHB.out.grow hg4.out (Ne.symm (own_apart HOO.out HHB.out (by decide))))
            have HB4 := Lib.hid (HBB.out.trans hb4)
            have hB4 : base ≤ w4.heap.size := Nat.le_trans hBB hb4.size
            have r3 : w4.cell? ⟨g, 3, none⟩ = some (.slice AO nO cO) := HH4.out.cell 3
            have z3 : w4.frozen? ⟨g, 3, none⟩ = false := HH4.out.thaw 3
            clear hr4 hb4 ho4 hg4
            go_wp2
            go_ret
            have hr := HR4.out.store HH4.out hg hB4 3 (.slice A4 (nO + 1) c4)
            exact ⟨rfl, ⟨hg, AV, nV, cV, AB, nB, cB, A4, nO + 1, c4, AG, nG, cG, HH4.out.stored 3 _, ⟨hr.v, hr.b, hr.lo, hr.lg, hr.o, hr.g⟩⟩, HB4.out.trans (fr_store HH4.out hg hB4 _ _)⟩
        · rw [if_neg h5] at hM
          subst hM
          have h51 : (v != 5) = true := by simp [h5]
          have p4 : w2.cell? ⟨g, 4, none⟩ = some (.slice AG nG cG) := HH2.out.cell 4
          have hro := HR2.out.beside hB2 (.cells #[.int .i64 n1] 3)
          have HRA := Lib.hid hro
          have HHA := Lib.hid (HH2.out.beside (.cells #[.int .i64 n1] 3))
          have hBA : base ≤ (w2.alloc (.cells #[.int .i64 n1] 3)).heap.size := by simp; omega
          have HBA := Lib.hid (HB2.out.alloc hB2 (.cells #[.int .i64 n1] 3))
          have HOG : Hid ((w2.alloc (.cells #[.int .i64 n1] 3)).ownsRow base 3 1 (.slice AG nG cG) nG (ints s1.got)) := Lib.hid hro.g
          have HNG := Lib.hid (show ([.int .i64 n1] : List Value).length = 1 * 1 from rfl)
          have HCG := cell_news w2 #[.int .i64 n1] 3 [.int .i64 n1] rfl
          have HG1 : Hid (∀ u ∈ ([.int .i64 n1] : List Value), u.oneCell' = true) := by
            intro u hu
            simp only [List.mem_singleton] at hu
            subst hu
            rfl
          have HGD : Hid (nG + 1 ≤ maxLen ∧ (nG + 1) * 8 ≤ 140737488355328 ∧ base ≤ (w2.alloc (.cells #[.int .i64 n1] 3)).heap.size) := ⟨by unfold maxLen; omega, by omega, hBA⟩
          clear hro h5 h7 he1
          go_wp2_with (with_reducible refine wpList_push (o := ⟨some 95, _, _, _, _, _⟩) rfl (.tmp 92) (.tmp 94) 22 rfl base 3 (.int .i64 0) 1 8 Tryd.underlying22 info_int ?hza (by decide) AG nG cG (ints s1.got) ?hsa HOG ⟨w2.heap.size, 0, none⟩ 1 1 [.int .i64 n1] ?hxa HNG HCG HG1 HGD ?nexta)
          all_goals try rfl
          case nexta =>
            intro AGx cGx w3 ho3 hg3
            obtain ⟨hr3, hb3⟩ := HRA.out.growG hBA n1 AGx cGx ho3.out hg3.out
            have HR3 := Lib.hid hr3
            have HH3 := Lib.hid (HHA.out.grow hg3.out (Ne.symm (own_apart HOG.out HHA.out (by decide))))
            have HB3 := Lib.hid (HBA.out.trans hb3)
            have hB3 : base ≤ w3.heap.size := Nat.le_trans hBA hb3.size
            have r4 : w3.cell? ⟨g, 4, none⟩ = some (.slice AG nG cG) := HH3.out.cell 4
            have z4 : w3.frozen? ⟨g, 4, none⟩ = false := HH3.out.thaw 4
            clear hr3 hb3 ho3 hg3 p4 HH2 HR2 HB2 HOG HCG HRA HHA HBA
            have HHx : Hid (Has (w3.setCell ⟨g, 4, none⟩ (.slice AGx (nG + 1) cGx)) g 110 (wkCells { s1 with got := s1.got ++ [n1] } AV nV cV AB nB cB AO nO cO AGx (nG + 1) cGx)) := Lib.hid (HH3.out.stored 4 _)
            have HRx := Lib.hid (HR3.out.store HH3.out hg hB3 4 (.slice AGx (nG + 1) cGx))
            have hBx : base ≤ (w3.setCell ⟨g, 4, none⟩ (.slice AGx (nG + 1) cGx)).heap.size := Nat.le_trans hB3 (below_store hg hB3 4 _).size
            have HBx := Lib.hid (HB3.out.trans (fr_store HH3.out hg hB3 4 (.slice AGx (nG + 1) cGx)))
            have hro := HRx.out.beside hBx (.cells #[.int .i64 n1, .int .i64 (k : Int)] 53)
            have HRB := Lib.hid hro
            have HHB := Lib.hid (HHx.out.beside (.cells #[.int .i64 n1, .int .i64 (k : Int)] 53))
            have hBB : base ≤ ((w3.setCell ⟨g, 4, none⟩ (.slice AGx (nG + 1) cGx)).alloc (.cells #[.int .i64 n1, .int .i64 (k : Int)] 53)).heap.size := by simp; omega
            have HBB := Lib.hid (HBx.out.alloc hBx (.cells #[.int .i64 n1, .int .i64 (k : Int)] 53))
            have HOO : Hid (((w3.setCell ⟨g, 4, none⟩ (.slice AGx (nG + 1) cGx)).alloc (.cells #[.int .i64 n1, .int .i64 (k : Int)] 53)).ownsRow base 53 2 (.slice AO nO cO) nO (pairs s1.out)) := Lib.hid hro.o
            have HNN := Lib.hid (show ([.int .i64 n1, .int .i64 (k : Int)] : List Value).length = 1 * 2 from rfl)
            have hcc := (cell_news (w3.setCell ⟨g, 4, none⟩ (.slice AGx (nG + 1) cGx)) #[.int .i64 n1, .int .i64 (k : Int)] 53 [.int .i64 n1, .int .i64 (k : Int)] rfl).out
            have hsz : (w3.setCell ⟨g, 4, none⟩ (.slice AGx (nG + 1) cGx)).heap.size = w3.heap.size := by simp
            rw [hsz] at hcc
            have HCC := Lib.hid hcc
            have HO1 : Hid (∀ u ∈ ([.int .i64 n1, .int .i64 (k : Int)] : List Value), u.oneCell' = true) := by
              intro u hu
              simp only [List.mem_cons, List.not_mem_nil, or_false] at hu
              rcases hu with rfl | rfl <;> rfl
            have HBD : Hid (nO + 1 ≤ maxLen ∧ (nO + 1) * 16 ≤ 140737488355328 ∧ base ≤ ((w3.setCell ⟨g, 4, none⟩ (.slice AGx (nG + 1) cGx)).alloc (.cells #[.int .i64 n1, .int .i64 (k : Int)] 53)).heap.size) := ⟨by unfold maxLen; omega, by omega, hBB⟩
            have q3 : (w3.setCell ⟨g, 4, none⟩ (.slice AGx (nG + 1) cGx)).cell? ⟨g, 3, none⟩ = some (.slice AO nO cO) := HHx.out.cell 3
            clear hro hcc hsz
            go_wp2_with (with_reducible refine wpList_push (o := ⟨some 107, _, _, _, _, _⟩) rfl (.tmp 102) (.tmp 106) 48 rfl base 53 (.agg #[.int .i64 0, .int .i64 0]) 2 16 Tryd.underlying48 info_bits ?hzg (by decide) AO nO cO (pairs s1.out) ?hsg HOO ⟨w3.heap.size, 0, none⟩ 1 1 [.int .i64 n1, .int .i64 (k : Int)] ?hxg HNN HCC HO1 HBD ?nextg)
            all_goals try rfl
            case nextg =>
              intro A4 c4 w4 ho4 hg4
              obtain ⟨hr4, hb4⟩ := HRB.out.growO hBB n1 k A4 c4 ho4.out hg4.out
              have HR4 := Lib.hid hr4
              have HH4 := Lib.hid (HHB.out.grow hg4.out (Ne.symm (own_apart HOO.out HHB.out (by decide))))
              have HB4 := Lib.hid (HBB.out.trans hb4)
              have hB4 : base ≤ w4.heap.size := Nat.le_trans hBB hb4.size
              have r3 : w4.cell? ⟨g, 3, none⟩ = some (.slice AO nO cO) := HH4.out.cell 3
              have z3 : w4.frozen? ⟨g, 3, none⟩ = false := HH4.out.thaw 3
              clear hr4 hb4 ho4 hg4
              go_wp2
              go_ret
              have hr := HR4.out.store HH4.out hg hB4 3 (.slice A4 (nO + 1) c4)
              exact ⟨rfl, ⟨hg, AV, nV, cV, AB, nB, cB, A4, nO + 1, c4, AGx, nG + 1, cGx, HH4.out.stored 3 _, ⟨hr.v, hr.b, hr.lo, hr.lg, hr.o, hr.g⟩⟩, HB4.out.trans (fr_store HH4.out hg hB4 _ _)⟩

end Go.Proofs.YtamnhnleipnhdaaDoor
