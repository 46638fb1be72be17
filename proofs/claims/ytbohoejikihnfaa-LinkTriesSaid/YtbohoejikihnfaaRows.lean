/-
  No cell of these rows narrows 'for every input' (looked for: loops, veiled, ifaces, maps, wideKeys, modest, calm, conditions, laid).
  DERIVED. THE GIVEN ROWS OF THIS SEAT. 5 by the template 'for every input the law returns true; each argument reads behind the call as it read before'; 0 by the template 'total and deterministic' (their statements: YtbohoejikihnfaaTotals.lean).
  GIVEN WITH THE SEED: the statements are not yours to turn. If you find one false, say at which input.
  Laid BY PROGRAM, IN A SANDBOX (cutbox-rows.mjs): the forced cells as the released guide's own fill.sh prints them over the translation e366457212aea99d… (all of the seat's roots in one cut). By AI agents, Wed Nov 11 2026. No macro, syntax, notation, axiom, sorry.
-/
import Derived.Test.YtbohoejikihnfaaChecked
import GoSem.Claim
import GoSem.ClaimJoined
import GoSem.ClaimMapViews
import Derived.JoinedTies
import Derived.KernelRfl
namespace Go.Proofs.Ytbohoejikihnfaa
/- THE CELL 'sum', in the pinned program and in every row, IS THE sha256 OF THE DUMP (.gsa) THAT YtbohoejikihnfaaProg.lean LOADS. Nothing in Lean hashes anything: it is a label: what it is worth is what the hold of that sum in a sandbox is worth. -/
noncomputable def Try.pinned : Pinned := { name := "ytbohoejikihnfaa", sum := "e366457212aea99d620ee1ed51e2f225ce1b0e2b0e932e4b71663dbc99b50a43", checked := Try.checked }
namespace Rows
def none {H : Type} : Left H := { results := [], args := [] }

/-- 'linesidelaw12.LinkDoes': WHATEVER THE INPUT: true; the input reads as it did. -/
def linkDoesSpec : ChangeSpec := { name := "linkDoes", fn := fun _ => fun
  | [d1, d2] => { results := [.lit (.bool true)], args := [d1, d2] }
  | _ => none }
def linkDoesRow : OpenClaim := { program := "ytbohoejikihnfaa", sum := "e366457212aea99d620ee1ed51e2f225ce1b0e2b0e932e4b71663dbc99b50a43", func := "lineside/linesidelaw12.LinkDoes", spec := "linkDoes", inPlace := ["slices.overlaps[lineside/api.Wait]"], unfollowed := true, recurses := true, apart := false }
def LinkDoesSaid : Prop := linkDoesRow.holds Try.pinned (OpenSpec.ofChange linkDoesSpec)

/-- ITS FALSE NEIGHBOUR: 'it returns false'. Refute it at one input. -/
def linkDoesWrong : ChangeSpec := { name := "linkDoes", fn := fun _ => fun
  | [d1, d2] => { results := [.lit (.bool false)], args := [d1, d2] }
  | _ => none }
def LinkDoesWrongFalsely : Prop := linkDoesRow.holds Try.pinned (OpenSpec.ofChange linkDoesWrong)

/-- 'linesidelaw12.LinkNew': WHATEVER THE INPUT: true; the input reads as it did. -/
def linkNewSpec : ChangeSpec := { name := "linkNew", fn := fun _ => fun
  | [d1, d2, d3, d4] => { results := [.lit (.bool true)], args := [d1, d2, d3, d4] }
  | _ => none }
def linkNewRow : OpenClaim := { program := "ytbohoejikihnfaa", sum := "e366457212aea99d620ee1ed51e2f225ce1b0e2b0e932e4b71663dbc99b50a43", func := "lineside/linesidelaw12.LinkNew", spec := "linkNew", inPlace := ["slices.overlaps[lineside/api.Wait]"], unfollowed := true, recurses := true, apart := false }
def LinkNewSaid : Prop := linkNewRow.holds Try.pinned (OpenSpec.ofChange linkNewSpec)

/-- ITS FALSE NEIGHBOUR: 'it returns false'. Refute it at one input. -/
def linkNewWrong : ChangeSpec := { name := "linkNew", fn := fun _ => fun
  | [d1, d2, d3, d4] => { results := [.lit (.bool false)], args := [d1, d2, d3, d4] }
  | _ => none }
def LinkNewWrongFalsely : Prop := linkNewRow.holds Try.pinned (OpenSpec.ofChange linkNewWrong)

/-- 'linesidelaw12.LinkTries': WHATEVER THE INPUT: true; the input reads as it did. -/
def linkTriesSpec : ChangeSpec := { name := "linkTries", fn := fun _ => fun
  | [d1, d2, d3, d4] => { results := [.lit (.bool true)], args := [d1, d2, d3, d4] }
  | _ => none }
def linkTriesRow : OpenClaim := { program := "ytbohoejikihnfaa", sum := "e366457212aea99d620ee1ed51e2f225ce1b0e2b0e932e4b71663dbc99b50a43", func := "lineside/linesidelaw12.LinkTries", spec := "linkTries", inPlace := ["slices.overlaps[lineside/api.Wait]"], unfollowed := true, recurses := true, apart := false }
def LinkTriesSaid : Prop := linkTriesRow.holds Try.pinned (OpenSpec.ofChange linkTriesSpec)

/-- ITS FALSE NEIGHBOUR: 'it returns false'. Refute it at one input. -/
def linkTriesWrong : ChangeSpec := { name := "linkTries", fn := fun _ => fun
  | [d1, d2, d3, d4] => { results := [.lit (.bool false)], args := [d1, d2, d3, d4] }
  | _ => none }
def LinkTriesWrongFalsely : Prop := linkTriesRow.holds Try.pinned (OpenSpec.ofChange linkTriesWrong)

/-- 'linesidelaw12.LinkLost': WHATEVER THE INPUT: true; the input reads as it did. -/
def linkLostSpec : ChangeSpec := { name := "linkLost", fn := fun _ => fun
  | [d1, d2, d3, d4, d5] => { results := [.lit (.bool true)], args := [d1, d2, d3, d4, d5] }
  | _ => none }
def linkLostRow : OpenClaim := { program := "ytbohoejikihnfaa", sum := "e366457212aea99d620ee1ed51e2f225ce1b0e2b0e932e4b71663dbc99b50a43", func := "lineside/linesidelaw12.LinkLost", spec := "linkLost", inPlace := ["slices.overlaps[lineside/api.Wait]"], unfollowed := true, recurses := true, apart := false }
def LinkLostSaid : Prop := linkLostRow.holds Try.pinned (OpenSpec.ofChange linkLostSpec)

/-- ITS FALSE NEIGHBOUR: 'it returns false'. Refute it at one input. -/
def linkLostWrong : ChangeSpec := { name := "linkLost", fn := fun _ => fun
  | [d1, d2, d3, d4, d5] => { results := [.lit (.bool false)], args := [d1, d2, d3, d4, d5] }
  | _ => none }
def LinkLostWrongFalsely : Prop := linkLostRow.holds Try.pinned (OpenSpec.ofChange linkLostWrong)

/-- 'linesidelaw12.LinkAcked': WHATEVER THE INPUT: true; the input reads as it did. -/
def linkAckedSpec : ChangeSpec := { name := "linkAcked", fn := fun _ => fun
  | [d1, d2] => { results := [.lit (.bool true)], args := [d1, d2] }
  | _ => none }
def linkAckedRow : OpenClaim := { program := "ytbohoejikihnfaa", sum := "e366457212aea99d620ee1ed51e2f225ce1b0e2b0e932e4b71663dbc99b50a43", func := "lineside/linesidelaw12.LinkAcked", spec := "linkAcked", inPlace := ["slices.overlaps[lineside/api.Wait]"], unfollowed := true, recurses := true, apart := false }
def LinkAckedSaid : Prop := linkAckedRow.holds Try.pinned (OpenSpec.ofChange linkAckedSpec)

/-- ITS FALSE NEIGHBOUR: 'it returns false'. Refute it at one input. -/
def linkAckedWrong : ChangeSpec := { name := "linkAcked", fn := fun _ => fun
  | [d1, d2] => { results := [.lit (.bool false)], args := [d1, d2] }
  | _ => none }
def LinkAckedWrongFalsely : Prop := linkAckedRow.holds Try.pinned (OpenSpec.ofChange linkAckedWrong)

/- THE SECOND FORM. 'bulk': how many values and letters a reading holds, each counted each time it is reached (what is shared counts as often as it is met; a slice's spare places count too). A statement '..UptoSaid' is the law's where the arguments, and the package variables that the reading takes, are together of bulk at most 1048576: NARROWER than '..Said'. Prove '..Said' where nothing that the law and all that it calls make is longer than what came in: it says more and counts as full. Else prove '..UptoSaid'. A law counts once. -/
mutual
def uptoBulk {H : Type} : DataW H → Nat
  | .lit (.string bytes) => bytes.length + 1
  | .lit _ => 1
  | .nil => 1
  | .ptr d => uptoBulk d + 1
  | .slice elems spare => uptoBulkAll elems + uptoBulkAll spare + 1
  | .agg parts => uptoBulkAll parts + 1
  | .iface _ d => uptoBulk d + 1
  | .map entries => uptoBulkEntries entries + 1
  | .held _ => 1
def uptoBulkAll {H : Type} : List (DataW H) → Nat
  | [] => 0
  | d :: r => uptoBulk d + uptoBulkAll r
def uptoBulkEntries {H : Type} : List (Lit × DataW H) → Nat
  | [] => 0
  | x :: r => uptoBulkEntry x + uptoBulkEntries r
def uptoBulkEntry {H : Type} : Lit × DataW H → Nat
  | (.string bytes, d) => bytes.length + uptoBulk d + 1
  | (_, d) => uptoBulk d + 1
 end
def uptoSmall : (H : Type) → List (DataW H) → Bool := fun _ ds => decide (uptoBulkAll ds ≤ 1048576)
def OpenSpec.upto (s : _root_.Go.ChangeSpec) : _root_.Go.OpenSpec := { _root_.Go.OpenSpec.ofChange s with cond := some uptoSmall }

/-- 'linesidelaw12.LinkDoes', WHERE WHAT IT READS IS OF BULK AT MOST 1048576: true; the input reads as it did. -/
def linkDoesUptoRow : OpenClaim := { program := "ytbohoejikihnfaa", sum := "e366457212aea99d620ee1ed51e2f225ce1b0e2b0e932e4b71663dbc99b50a43", func := "lineside/linesidelaw12.LinkDoes", spec := "linkDoes", inPlace := ["slices.overlaps[lineside/api.Wait]"], unfollowed := true, recurses := true, apart := false, narrowed := true }
def LinkDoesUptoSaid : Prop := linkDoesUptoRow.holds Try.pinned (OpenSpec.upto linkDoesSpec)

/-- 'linesidelaw12.LinkNew', WHERE WHAT IT READS IS OF BULK AT MOST 1048576: true; the input reads as it did. -/
def linkNewUptoRow : OpenClaim := { program := "ytbohoejikihnfaa", sum := "e366457212aea99d620ee1ed51e2f225ce1b0e2b0e932e4b71663dbc99b50a43", func := "lineside/linesidelaw12.LinkNew", spec := "linkNew", inPlace := ["slices.overlaps[lineside/api.Wait]"], unfollowed := true, recurses := true, apart := false, narrowed := true }
def LinkNewUptoSaid : Prop := linkNewUptoRow.holds Try.pinned (OpenSpec.upto linkNewSpec)

/-- 'linesidelaw12.LinkTries', WHERE WHAT IT READS IS OF BULK AT MOST 1048576: true; the input reads as it did. -/
def linkTriesUptoRow : OpenClaim := { program := "ytbohoejikihnfaa", sum := "e366457212aea99d620ee1ed51e2f225ce1b0e2b0e932e4b71663dbc99b50a43", func := "lineside/linesidelaw12.LinkTries", spec := "linkTries", inPlace := ["slices.overlaps[lineside/api.Wait]"], unfollowed := true, recurses := true, apart := false, narrowed := true }
def LinkTriesUptoSaid : Prop := linkTriesUptoRow.holds Try.pinned (OpenSpec.upto linkTriesSpec)

/-- 'linesidelaw12.LinkLost', WHERE WHAT IT READS IS OF BULK AT MOST 1048576: true; the input reads as it did. -/
def linkLostUptoRow : OpenClaim := { program := "ytbohoejikihnfaa", sum := "e366457212aea99d620ee1ed51e2f225ce1b0e2b0e932e4b71663dbc99b50a43", func := "lineside/linesidelaw12.LinkLost", spec := "linkLost", inPlace := ["slices.overlaps[lineside/api.Wait]"], unfollowed := true, recurses := true, apart := false, narrowed := true }
def LinkLostUptoSaid : Prop := linkLostUptoRow.holds Try.pinned (OpenSpec.upto linkLostSpec)

/-- 'linesidelaw12.LinkAcked', WHERE WHAT IT READS IS OF BULK AT MOST 1048576: true; the input reads as it did. -/
def linkAckedUptoRow : OpenClaim := { program := "ytbohoejikihnfaa", sum := "e366457212aea99d620ee1ed51e2f225ce1b0e2b0e932e4b71663dbc99b50a43", func := "lineside/linesidelaw12.LinkAcked", spec := "linkAcked", inPlace := ["slices.overlaps[lineside/api.Wait]"], unfollowed := true, recurses := true, apart := false, narrowed := true }
def LinkAckedUptoSaid : Prop := linkAckedUptoRow.holds Try.pinned (OpenSpec.upto linkAckedSpec)

end Rows
end Go.Proofs.Ytbohoejikihnfaa
