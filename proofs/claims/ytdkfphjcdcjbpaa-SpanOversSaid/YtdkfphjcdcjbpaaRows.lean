/-
  No cell of these rows narrows 'for every input' (looked for: loops, veiled, ifaces, maps, wideKeys, modest, calm, conditions, laid).
  DERIVED. THE GIVEN ROWS OF THIS SEAT. 6 by the template 'for every input the law returns true; each argument reads behind the call as it read before'; 0 by the template 'total and deterministic' (their statements: YtdkfphjcdcjbpaaTotals.lean).
  GIVEN WITH THE SEED: the statements are not yours to turn. If you find one false, say at which input.
  Laid BY PROGRAM, IN A SANDBOX (cutbox-rows.mjs): the forced cells as the released guide's own fill.sh prints them over the translation dd0113b40186df43… (all of the seat's roots in one cut). By AI agents, Wed Nov 11 2026. No macro, syntax, notation, axiom, sorry.
-/
import Derived.Test.YtdkfphjcdcjbpaaChecked
import GoSem.Claim
import GoSem.ClaimJoined
import GoSem.ClaimMapViews
import Derived.JoinedTies
import Derived.KernelRfl
namespace Go.Proofs.Ytdkfphjcdcjbpaa
/- THE CELL 'sum', in the pinned program and in every row, IS THE sha256 OF THE DUMP (.gsa) THAT YtdkfphjcdcjbpaaProg.lean LOADS. Nothing in Lean hashes anything: it is a label: what it is worth is what the hold of that sum in a sandbox is worth. -/
noncomputable def Try.pinned : Pinned := { name := "ytdkfphjcdcjbpaa", sum := "dd0113b40186df434da1dd082993a7e9a2654baf289709a6044809b283bbb83a", checked := Try.checked }
namespace Rows
def none {H : Type} : Left H := { results := [], args := [] }

/-- 'linesidelaw15.SpanForms': WHATEVER THE INPUT: true; the input reads as it did. -/
def spanFormsSpec : ChangeSpec := { name := "spanForms", fn := fun _ => fun
  | [d1, d2] => { results := [.lit (.bool true)], args := [d1, d2] }
  | _ => none }
def spanFormsRow : OpenClaim := { program := "ytdkfphjcdcjbpaa", sum := "dd0113b40186df434da1dd082993a7e9a2654baf289709a6044809b283bbb83a", func := "lineside/linesidelaw15.SpanForms", spec := "spanForms", unfollowed := true, recurses := true, plainKeys := false, apart := false }
def SpanFormsSaid : Prop := spanFormsRow.holds Try.pinned (OpenSpec.ofChange spanFormsSpec)

/-- ITS FALSE NEIGHBOUR: 'it returns false'. Refute it at one input. -/
def spanFormsWrong : ChangeSpec := { name := "spanForms", fn := fun _ => fun
  | [d1, d2] => { results := [.lit (.bool false)], args := [d1, d2] }
  | _ => none }
def SpanFormsWrongFalsely : Prop := spanFormsRow.holds Try.pinned (OpenSpec.ofChange spanFormsWrong)

/-- 'linesidelaw15.SpanOvers': WHATEVER THE INPUT: true; the input reads as it did. -/
def spanOversSpec : ChangeSpec := { name := "spanOvers", fn := fun _ => fun
  | [d1, d2, d3, d4] => { results := [.lit (.bool true)], args := [d1, d2, d3, d4] }
  | _ => none }
def spanOversRow : OpenClaim := { program := "ytdkfphjcdcjbpaa", sum := "dd0113b40186df434da1dd082993a7e9a2654baf289709a6044809b283bbb83a", func := "lineside/linesidelaw15.SpanOvers", spec := "spanOvers", unfollowed := true, recurses := true, plainKeys := false, apart := false }
def SpanOversSaid : Prop := spanOversRow.holds Try.pinned (OpenSpec.ofChange spanOversSpec)

/-- ITS FALSE NEIGHBOUR: 'it returns false'. Refute it at one input. -/
def spanOversWrong : ChangeSpec := { name := "spanOvers", fn := fun _ => fun
  | [d1, d2, d3, d4] => { results := [.lit (.bool false)], args := [d1, d2, d3, d4] }
  | _ => none }
def SpanOversWrongFalsely : Prop := spanOversRow.holds Try.pinned (OpenSpec.ofChange spanOversWrong)

/-- 'linesidelaw15.SpanPoints': WHATEVER THE INPUT: true; the input reads as it did. -/
def spanPointsSpec : ChangeSpec := { name := "spanPoints", fn := fun _ => fun
  | [d1, d2, d3, d4] => { results := [.lit (.bool true)], args := [d1, d2, d3, d4] }
  | _ => none }
def spanPointsRow : OpenClaim := { program := "ytdkfphjcdcjbpaa", sum := "dd0113b40186df434da1dd082993a7e9a2654baf289709a6044809b283bbb83a", func := "lineside/linesidelaw15.SpanPoints", spec := "spanPoints", unfollowed := true, recurses := true, plainKeys := false, apart := false }
def SpanPointsSaid : Prop := spanPointsRow.holds Try.pinned (OpenSpec.ofChange spanPointsSpec)

/-- ITS FALSE NEIGHBOUR: 'it returns false'. Refute it at one input. -/
def spanPointsWrong : ChangeSpec := { name := "spanPoints", fn := fun _ => fun
  | [d1, d2, d3, d4] => { results := [.lit (.bool false)], args := [d1, d2, d3, d4] }
  | _ => none }
def SpanPointsWrongFalsely : Prop := spanPointsRow.holds Try.pinned (OpenSpec.ofChange spanPointsWrong)

/-- 'linesidelaw15.SpanNormal': WHATEVER THE INPUT: true; the input reads as it did. -/
def spanNormalSpec : ChangeSpec := { name := "spanNormal", fn := fun _ => fun
  | [d1, d2] => { results := [.lit (.bool true)], args := [d1, d2] }
  | _ => none }
def spanNormalRow : OpenClaim := { program := "ytdkfphjcdcjbpaa", sum := "dd0113b40186df434da1dd082993a7e9a2654baf289709a6044809b283bbb83a", func := "lineside/linesidelaw15.SpanNormal", spec := "spanNormal", unfollowed := true, recurses := true, plainKeys := false, apart := false }
def SpanNormalSaid : Prop := spanNormalRow.holds Try.pinned (OpenSpec.ofChange spanNormalSpec)

/-- ITS FALSE NEIGHBOUR: 'it returns false'. Refute it at one input. -/
def spanNormalWrong : ChangeSpec := { name := "spanNormal", fn := fun _ => fun
  | [d1, d2] => { results := [.lit (.bool false)], args := [d1, d2] }
  | _ => none }
def SpanNormalWrongFalsely : Prop := spanNormalRow.holds Try.pinned (OpenSpec.ofChange spanNormalWrong)

/-- 'linesidelaw15.SpanParts': WHATEVER THE INPUT: true; the input reads as it did. -/
def spanPartsSpec : ChangeSpec := { name := "spanParts", fn := fun _ => fun
  | [d1, d2] => { results := [.lit (.bool true)], args := [d1, d2] }
  | _ => none }
def spanPartsRow : OpenClaim := { program := "ytdkfphjcdcjbpaa", sum := "dd0113b40186df434da1dd082993a7e9a2654baf289709a6044809b283bbb83a", func := "lineside/linesidelaw15.SpanParts", spec := "spanParts", unfollowed := true, recurses := true, plainKeys := false, apart := false }
def SpanPartsSaid : Prop := spanPartsRow.holds Try.pinned (OpenSpec.ofChange spanPartsSpec)

/-- ITS FALSE NEIGHBOUR: 'it returns false'. Refute it at one input. -/
def spanPartsWrong : ChangeSpec := { name := "spanParts", fn := fun _ => fun
  | [d1, d2] => { results := [.lit (.bool false)], args := [d1, d2] }
  | _ => none }
def SpanPartsWrongFalsely : Prop := spanPartsRow.holds Try.pinned (OpenSpec.ofChange spanPartsWrong)

/-- 'linesidelaw15.SpanLong': WHATEVER THE INPUT: true; the input reads as it did. -/
def spanLongSpec : ChangeSpec := { name := "spanLong", fn := fun _ => fun
  | [d1, d2, d3, d4, d5] => { results := [.lit (.bool true)], args := [d1, d2, d3, d4, d5] }
  | _ => none }
def spanLongRow : OpenClaim := { program := "ytdkfphjcdcjbpaa", sum := "dd0113b40186df434da1dd082993a7e9a2654baf289709a6044809b283bbb83a", func := "lineside/linesidelaw15.SpanLong", spec := "spanLong", unfollowed := true, recurses := true, plainKeys := false, apart := false }
def SpanLongSaid : Prop := spanLongRow.holds Try.pinned (OpenSpec.ofChange spanLongSpec)

/-- ITS FALSE NEIGHBOUR: 'it returns false'. Refute it at one input. -/
def spanLongWrong : ChangeSpec := { name := "spanLong", fn := fun _ => fun
  | [d1, d2, d3, d4, d5] => { results := [.lit (.bool false)], args := [d1, d2, d3, d4, d5] }
  | _ => none }
def SpanLongWrongFalsely : Prop := spanLongRow.holds Try.pinned (OpenSpec.ofChange spanLongWrong)

/- THE SECOND FORM. 'bulk': how many values and letters a reading holds, each counted each time it is reached (what is shared counts as often as it is met; a slice's spare places count too). A statement '..UptoSaid' is the law's where the arguments, and the package variables that the reading takes, are together of bulk at most 1048576: NARROWER than '..Said'. Prove '..Said' where nothing that the law and all that it calls make is longer than what came in: it says more and counts as full. Else prove '..UptoSaid'. A law counts once. -/
mutual
def uptoBulk {H : Type} : DataW H → Nat
  | .lit (.string bytes) => bytes.length + 1
  | .lit _ => 1
  | .nil => 1
  | .ptr d => uptoBulk d + 1
  | .slice elems spare => uptoBulkAll elems + uptoBulkAll spare + 1
  | .agg parts => uptoBulkAll parts + 1
  | .iface _ d => uptoBulk d + 1
  | .map entries => uptoBulkEntries entries + 1
  | .held _ => 1
def uptoBulkAll {H : Type} : List (DataW H) → Nat
  | [] => 0
  | d :: r => uptoBulk d + uptoBulkAll r
def uptoBulkEntries {H : Type} : List (Lit × DataW H) → Nat
  | [] => 0
  | x :: r => uptoBulkEntry x + uptoBulkEntries r
def uptoBulkEntry {H : Type} : Lit × DataW H → Nat
  | (.string bytes, d) => bytes.length + uptoBulk d + 1
  | (_, d) => uptoBulk d + 1
 end
def uptoSmall : (H : Type) → List (DataW H) → Bool := fun _ ds => decide (uptoBulkAll ds ≤ 1048576)
def OpenSpec.upto (s : _root_.Go.ChangeSpec) : _root_.Go.OpenSpec := { _root_.Go.OpenSpec.ofChange s with cond := some uptoSmall }

/-- 'linesidelaw15.SpanForms', WHERE WHAT IT READS IS OF BULK AT MOST 1048576: true; the input reads as it did. -/
def spanFormsUptoRow : OpenClaim := { program := "ytdkfphjcdcjbpaa", sum := "dd0113b40186df434da1dd082993a7e9a2654baf289709a6044809b283bbb83a", func := "lineside/linesidelaw15.SpanForms", spec := "spanForms", unfollowed := true, recurses := true, plainKeys := false, apart := false, narrowed := true }
def SpanFormsUptoSaid : Prop := spanFormsUptoRow.holds Try.pinned (OpenSpec.upto spanFormsSpec)

/-- 'linesidelaw15.SpanOvers', WHERE WHAT IT READS IS OF BULK AT MOST 1048576: true; the input reads as it did. -/
def spanOversUptoRow : OpenClaim := { program := "ytdkfphjcdcjbpaa", sum := "dd0113b40186df434da1dd082993a7e9a2654baf289709a6044809b283bbb83a", func := "lineside/linesidelaw15.SpanOvers", spec := "spanOvers", unfollowed := true, recurses := true, plainKeys := false, apart := false, narrowed := true }
def SpanOversUptoSaid : Prop := spanOversUptoRow.holds Try.pinned (OpenSpec.upto spanOversSpec)

/-- 'linesidelaw15.SpanPoints', WHERE WHAT IT READS IS OF BULK AT MOST 1048576: true; the input reads as it did. -/
def spanPointsUptoRow : OpenClaim := { program := "ytdkfphjcdcjbpaa", sum := "dd0113b40186df434da1dd082993a7e9a2654baf289709a6044809b283bbb83a", func := "lineside/linesidelaw15.SpanPoints", spec := "spanPoints", unfollowed := true, recurses := true, plainKeys := false, apart := false, narrowed := true }
def SpanPointsUptoSaid : Prop := spanPointsUptoRow.holds Try.pinned (OpenSpec.upto spanPointsSpec)

/-- 'linesidelaw15.SpanNormal', WHERE WHAT IT READS IS OF BULK AT MOST 1048576: true; the input reads as it did. -/
def spanNormalUptoRow : OpenClaim := { program := "ytdkfphjcdcjbpaa", sum := "dd0113b40186df434da1dd082993a7e9a2654baf289709a6044809b283bbb83a", func := "lineside/linesidelaw15.SpanNormal", spec := "spanNormal", unfollowed := true, recurses := true, plainKeys := false, apart := false, narrowed := true }
def SpanNormalUptoSaid : Prop := spanNormalUptoRow.holds Try.pinned (OpenSpec.upto spanNormalSpec)

/-- 'linesidelaw15.SpanParts', WHERE WHAT IT READS IS OF BULK AT MOST 1048576: true; the input reads as it did. -/
def spanPartsUptoRow : OpenClaim := { program := "ytdkfphjcdcjbpaa", sum := "dd0113b40186df434da1dd082993a7e9a2654baf289709a6044809b283bbb83a", func := "lineside/linesidelaw15.SpanParts", spec := "spanParts", unfollowed := true, recurses := true, plainKeys := false, apart := false, narrowed := true }
def SpanPartsUptoSaid : Prop := spanPartsUptoRow.holds Try.pinned (OpenSpec.upto spanPartsSpec)

/-- 'linesidelaw15.SpanLong', WHERE WHAT IT READS IS OF BULK AT MOST 1048576: true; the input reads as it did. -/
def spanLongUptoRow : OpenClaim := { program := "ytdkfphjcdcjbpaa", sum := "dd0113b40186df434da1dd082993a7e9a2654baf289709a6044809b283bbb83a", func := "lineside/linesidelaw15.SpanLong", spec := "spanLong", unfollowed := true, recurses := true, plainKeys := false, apart := false, narrowed := true }
def SpanLongUptoSaid : Prop := spanLongUptoRow.holds Try.pinned (OpenSpec.upto spanLongSpec)

end Rows
end Go.Proofs.Ytdkfphjcdcjbpaa
