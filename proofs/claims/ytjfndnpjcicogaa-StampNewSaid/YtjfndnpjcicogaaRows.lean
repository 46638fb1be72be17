/-
  No cell of these rows narrows 'for every input' (looked for: loops, veiled, ifaces, maps, wideKeys, modest, calm, conditions, laid).
  DERIVED. THE GIVEN ROWS OF THIS SEAT. 5 by the template 'for every input the law returns true; each argument reads behind the call as it read before'; 0 by the template 'total and deterministic' (their statements: YtjfndnpjcicogaaTotals.lean).
  GIVEN WITH THE SEED: the statements are not yours to turn. If you find one false, say at which input.
  Laid BY PROGRAM, IN A SANDBOX (cutbox-rows.mjs): the forced cells as the released guide's own fill.sh prints them over the translation e4e42278dd08a732… (all of the seat's roots in one cut). By AI agents, Wed Nov 11 2026. No macro, syntax, notation, axiom, sorry.
-/
import Derived.Test.YtjfndnpjcicogaaChecked
import GoSem.Claim
import GoSem.ClaimJoined
import GoSem.ClaimMapViews
import Derived.JoinedTies
import Derived.KernelRfl
namespace Go.Proofs.Ytjfndnpjcicogaa
/- THE CELL 'sum', in the pinned program and in every row, IS THE sha256 OF THE DUMP (.gsa) THAT YtjfndnpjcicogaaProg.lean LOADS. Nothing in Lean hashes anything: it is a label: what it is worth is what the hold of that sum in a sandbox is worth. -/
noncomputable def Try.pinned : Pinned := { name := "ytjfndnpjcicogaa", sum := "e4e42278dd08a732cf2a5b861ae9a5a2d5790a40be5787f5ff0d65d39da20395", checked := Try.checked }
namespace Rows
def none {H : Type} : Left H := { results := [], args := [] }

/-- 'linesidelaw11.StampTakes': WHATEVER THE INPUT: true; the input reads as it did. -/
def stampTakesSpec : ChangeSpec := { name := "stampTakes", fn := fun _ => fun
  | [d1, d2, d3] => { results := [.lit (.bool true)], args := [d1, d2, d3] }
  | _ => none }
def stampTakesRow : OpenClaim := { program := "ytjfndnpjcicogaa", sum := "e4e42278dd08a732cf2a5b861ae9a5a2d5790a40be5787f5ff0d65d39da20395", func := "lineside/linesidelaw11.StampTakes", spec := "stampTakes", unfollowed := true, recurses := true, apart := false }
def StampTakesSaid : Prop := stampTakesRow.holds Try.pinned (OpenSpec.ofChange stampTakesSpec)

/-- ITS FALSE NEIGHBOUR: 'it returns false'. Refute it at one input. -/
def stampTakesWrong : ChangeSpec := { name := "stampTakes", fn := fun _ => fun
  | [d1, d2, d3] => { results := [.lit (.bool false)], args := [d1, d2, d3] }
  | _ => none }
def StampTakesWrongFalsely : Prop := stampTakesRow.holds Try.pinned (OpenSpec.ofChange stampTakesWrong)

/-- 'linesidelaw11.StampNew': WHATEVER THE INPUT: true; the input reads as it did. -/
def stampNewSpec : ChangeSpec := { name := "stampNew", fn := fun _ => fun
  | [d1, d2] => { results := [.lit (.bool true)], args := [d1, d2] }
  | _ => none }
def stampNewRow : OpenClaim := { program := "ytjfndnpjcicogaa", sum := "e4e42278dd08a732cf2a5b861ae9a5a2d5790a40be5787f5ff0d65d39da20395", func := "lineside/linesidelaw11.StampNew", spec := "stampNew", unfollowed := true, recurses := true, apart := false }
def StampNewSaid : Prop := stampNewRow.holds Try.pinned (OpenSpec.ofChange stampNewSpec)

/-- ITS FALSE NEIGHBOUR: 'it returns false'. Refute it at one input. -/
def stampNewWrong : ChangeSpec := { name := "stampNew", fn := fun _ => fun
  | [d1, d2] => { results := [.lit (.bool false)], args := [d1, d2] }
  | _ => none }
def StampNewWrongFalsely : Prop := stampNewRow.holds Try.pinned (OpenSpec.ofChange stampNewWrong)

/-- 'linesidelaw11.StampRises': WHATEVER THE INPUT: true; the input reads as it did. -/
def stampRisesSpec : ChangeSpec := { name := "stampRises", fn := fun _ => fun
  | [d1, d2, d3] => { results := [.lit (.bool true)], args := [d1, d2, d3] }
  | _ => none }
def stampRisesRow : OpenClaim := { program := "ytjfndnpjcicogaa", sum := "e4e42278dd08a732cf2a5b861ae9a5a2d5790a40be5787f5ff0d65d39da20395", func := "lineside/linesidelaw11.StampRises", spec := "stampRises", unfollowed := true, recurses := true, apart := false }
def StampRisesSaid : Prop := stampRisesRow.holds Try.pinned (OpenSpec.ofChange stampRisesSpec)

/-- ITS FALSE NEIGHBOUR: 'it returns false'. Refute it at one input. -/
def stampRisesWrong : ChangeSpec := { name := "stampRises", fn := fun _ => fun
  | [d1, d2, d3] => { results := [.lit (.bool false)], args := [d1, d2, d3] }
  | _ => none }
def StampRisesWrongFalsely : Prop := stampRisesRow.holds Try.pinned (OpenSpec.ofChange stampRisesWrong)

/-- 'linesidelaw11.StampOnce': WHATEVER THE INPUT: true; the input reads as it did. -/
def stampOnceSpec : ChangeSpec := { name := "stampOnce", fn := fun _ => fun
  | [d1, d2, d3] => { results := [.lit (.bool true)], args := [d1, d2, d3] }
  | _ => none }
def stampOnceRow : OpenClaim := { program := "ytjfndnpjcicogaa", sum := "e4e42278dd08a732cf2a5b861ae9a5a2d5790a40be5787f5ff0d65d39da20395", func := "lineside/linesidelaw11.StampOnce", spec := "stampOnce", unfollowed := true, recurses := true, apart := false }
def StampOnceSaid : Prop := stampOnceRow.holds Try.pinned (OpenSpec.ofChange stampOnceSpec)

/-- ITS FALSE NEIGHBOUR: 'it returns false'. Refute it at one input. -/
def stampOnceWrong : ChangeSpec := { name := "stampOnce", fn := fun _ => fun
  | [d1, d2, d3] => { results := [.lit (.bool false)], args := [d1, d2, d3] }
  | _ => none }
def StampOnceWrongFalsely : Prop := stampOnceRow.holds Try.pinned (OpenSpec.ofChange stampOnceWrong)

/-- 'linesidelaw11.StampWide': WHATEVER THE INPUT: true; the input reads as it did. -/
def stampWideSpec : ChangeSpec := { name := "stampWide", fn := fun _ => fun
  | [d1, d2, d3, d4] => { results := [.lit (.bool true)], args := [d1, d2, d3, d4] }
  | _ => none }
def stampWideRow : OpenClaim := { program := "ytjfndnpjcicogaa", sum := "e4e42278dd08a732cf2a5b861ae9a5a2d5790a40be5787f5ff0d65d39da20395", func := "lineside/linesidelaw11.StampWide", spec := "stampWide", unfollowed := true, recurses := true, apart := false }
def StampWideSaid : Prop := stampWideRow.holds Try.pinned (OpenSpec.ofChange stampWideSpec)

/-- ITS FALSE NEIGHBOUR: 'it returns false'. Refute it at one input. -/
def stampWideWrong : ChangeSpec := { name := "stampWide", fn := fun _ => fun
  | [d1, d2, d3, d4] => { results := [.lit (.bool false)], args := [d1, d2, d3, d4] }
  | _ => none }
def StampWideWrongFalsely : Prop := stampWideRow.holds Try.pinned (OpenSpec.ofChange stampWideWrong)

/- THE SECOND FORM. 'bulk': how many values and letters a reading holds, each counted each time it is reached (what is shared counts as often as it is met; a slice's spare places count too). A statement '..UptoSaid' is the law's where the arguments, and the package variables that the reading takes, are together of bulk at most 1048576: NARROWER than '..Said'. Prove '..Said' where nothing that the law and all that it calls make is longer than what came in: it says more and counts as full. Else prove '..UptoSaid'. A law counts once. -/
mutual
def uptoBulk {H : Type} : DataW H → Nat
  | .lit (.string bytes) => bytes.length + 1
  | .lit _ => 1
  | .nil => 1
  | .ptr d => uptoBulk d + 1
  | .slice elems spare => uptoBulkAll elems + uptoBulkAll spare + 1
  | .agg parts => uptoBulkAll parts + 1
  | .iface _ d => uptoBulk d + 1
  | .map entries => uptoBulkEntries entries + 1
  | .held _ => 1
def uptoBulkAll {H : Type} : List (DataW H) → Nat
  | [] => 0
  | d :: r => uptoBulk d + uptoBulkAll r
def uptoBulkEntries {H : Type} : List (Lit × DataW H) → Nat
  | [] => 0
  | x :: r => uptoBulkEntry x + uptoBulkEntries r
def uptoBulkEntry {H : Type} : Lit × DataW H → Nat
  | (.string bytes, d) => bytes.length + uptoBulk d + 1
  | (_, d) => uptoBulk d + 1
 end
def uptoSmall : (H : Type) → List (DataW H) → Bool := fun _ ds => decide (uptoBulkAll ds ≤ 1048576)
def OpenSpec.upto (s : _root_.Go.ChangeSpec) : _root_.Go.OpenSpec := { _root_.Go.OpenSpec.ofChange s with cond := some uptoSmall }

/-- 'linesidelaw11.StampTakes', WHERE WHAT IT READS IS OF BULK AT MOST 1048576: true; the input reads as it did. -/
def stampTakesUptoRow : OpenClaim := { program := "ytjfndnpjcicogaa", sum := "e4e42278dd08a732cf2a5b861ae9a5a2d5790a40be5787f5ff0d65d39da20395", func := "lineside/linesidelaw11.StampTakes", spec := "stampTakes", unfollowed := true, recurses := true, apart := false, narrowed := true }
def StampTakesUptoSaid : Prop := stampTakesUptoRow.holds Try.pinned (OpenSpec.upto stampTakesSpec)

/-- 'linesidelaw11.StampNew', WHERE WHAT IT READS IS OF BULK AT MOST 1048576: true; the input reads as it did. -/
def stampNewUptoRow : OpenClaim := { program := "ytjfndnpjcicogaa", sum := "e4e42278dd08a732cf2a5b861ae9a5a2d5790a40be5787f5ff0d65d39da20395", func := "lineside/linesidelaw11.StampNew", spec := "stampNew", unfollowed := true, recurses := true, apart := false, narrowed := true }
def StampNewUptoSaid : Prop := stampNewUptoRow.holds Try.pinned (OpenSpec.upto stampNewSpec)

/-- 'linesidelaw11.StampRises', WHERE WHAT IT READS IS OF BULK AT MOST 1048576: true; the input reads as it did. -/
def stampRisesUptoRow : OpenClaim := { program := "ytjfndnpjcicogaa", sum := "e4e42278dd08a732cf2a5b861ae9a5a2d5790a40be5787f5ff0d65d39da20395", func := "lineside/linesidelaw11.StampRises", spec := "stampRises", unfollowed := true, recurses := true, apart := false, narrowed := true }
def StampRisesUptoSaid : Prop := stampRisesUptoRow.holds Try.pinned (OpenSpec.upto stampRisesSpec)

/-- 'linesidelaw11.StampOnce', WHERE WHAT IT READS IS OF BULK AT MOST 1048576: true; the input reads as it did. -/
def stampOnceUptoRow : OpenClaim := { program := "ytjfndnpjcicogaa", sum := "e4e42278dd08a732cf2a5b861ae9a5a2d5790a40be5787f5ff0d65d39da20395", func := "lineside/linesidelaw11.StampOnce", spec := "stampOnce", unfollowed := true, recurses := true, apart := false, narrowed := true }
def StampOnceUptoSaid : Prop := stampOnceUptoRow.holds Try.pinned (OpenSpec.upto stampOnceSpec)

/-- 'linesidelaw11.StampWide', WHERE WHAT IT READS IS OF BULK AT MOST 1048576: true; the input reads as it did. -/
def stampWideUptoRow : OpenClaim := { program := "ytjfndnpjcicogaa", sum := "e4e42278dd08a732cf2a5b861ae9a5a2d5790a40be5787f5ff0d65d39da20395", func := "lineside/linesidelaw11.StampWide", spec := "stampWide", unfollowed := true, recurses := true, apart := false, narrowed := true }
def StampWideUptoSaid : Prop := stampWideUptoRow.holds Try.pinned (OpenSpec.upto stampWideSpec)

end Rows
end Go.Proofs.Ytjfndnpjcicogaa
