/-
  The list of widths as a row lists it: what it gives a walk (Wd), and a world for the witness.
-/
import Derived.Test.YtijececmengdmaaDoorVars
import Derived.Test.YtijececmengdmaaDoorCards
import Derived.Test.YtijececmengdmaaDoorTie
import Derived.WalkKit
import Derived.ProofKit
import Derived.OpenShut
import Derived.Deep.DeepHandedRow
import Derived.Lib.LaidTab
namespace Go.Proofs.YtijececmengdmaaDoor
open Go.ChangeShapes Go.WideShapes Go.ChangeAt Go.RowKit

theorem gWidths : Tryd.prog.globalNamed "lineside/vars.widths" = some 0 := by kernel_rfl
theorem gWidthsType : (Tryd.prog.globals[0]?).map (·.type) = some 29 := by kernel_rfl
theorem cellsWidths : Tryd.prog.cellsOf 29 = 96 := by kernel_rfl
theorem cellsInt : Tryd.prog.cellsOf 3 = 1 := by kernel_rfl

def widthInts : List Int := vrows.map fun r => ((r.width : Nat) : Int)
theorem laid_widths {H : Type} : (Rows.laid_lineside_vars_widths : DataW H) = Lib.tabData .i64 widthInts := by kernel_rfl

theorem wd_of_laid {W : World} (h : laidMetH Tryd.prog [("lineside/vars.widths", Rows.laid_lineside_vars_widths)] W) : Wd W := by
  rw [laid_widths] at h
  have ht : Lib.TabIs Tryd.prog W "lineside/vars.widths" .i64 widthInts :=
    Lib.tabIs_of_head (rest := []) gWidths gWidthsType Tryd.underlying29 Tryd.underlying3 cellsInt cellsWidths h
  intro i hi
  have hl := vrows_length
  have := ht.cell gWidths i (by simp only [widthInts, List.length_map]; omega)
  rw [this]
  simp [widthInts, List.getD_eq_getElem?_getD, List.getElem?_eq_getElem (show i < vrows.length by omega)]

/-- The settled world, its list of widths filled. -/
noncomputable def widthsWorld (os : Os) : World :=
  { World.holding Tryd.prog os ⟨#[], #[], []⟩ with heap := (World.holding Tryd.prog os ⟨#[], #[], []⟩).heap.modify 0 fun
      | .cells _ t frozen => .cells (widthInts.map fun z => Value.int .i64 z).toArray t frozen
      | o => o }
end Go.Proofs.YtijececmengdmaaDoor
