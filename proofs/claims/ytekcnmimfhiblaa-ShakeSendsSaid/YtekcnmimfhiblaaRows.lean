/-
  No cell of these rows narrows 'for every input' (looked for: loops, veiled, ifaces, maps, wideKeys, modest, calm, conditions, laid).
  DERIVED. THE GIVEN ROWS OF THIS SEAT. 6 by the template 'for every input the law returns true; each argument reads behind the call as it read before'; 0 by the template 'total and deterministic' (their statements: YtekcnmimfhiblaaTotals.lean).
  GIVEN WITH THE SEED: the statements are not yours to turn. If you find one false, say at which input.
  Laid BY PROGRAM, IN A SANDBOX (cutbox-rows.mjs): the forced cells as the released guide's own fill.sh prints them over the translation 2729c45b9cb238b7… (all of the seat's roots in one cut). By AI agents, Wed Nov 11 2026. No macro, syntax, notation, axiom, sorry.
-/
import Derived.Test.YtekcnmimfhiblaaChecked
import GoSem.Claim
import GoSem.ClaimJoined
import GoSem.ClaimMapViews
import Derived.JoinedTies
import Derived.KernelRfl
namespace Go.Proofs.Ytekcnmimfhiblaa
/- THE CELL 'sum', in the pinned program and in every row, IS THE sha256 OF THE DUMP (.gsa) THAT YtekcnmimfhiblaaProg.lean LOADS. Nothing in Lean hashes anything: it is a label: what it is worth is what the hold of that sum in a sandbox is worth. -/
noncomputable def Try.pinned : Pinned := { name := "ytekcnmimfhiblaa", sum := "2729c45b9cb238b7e2ca55b77298bcacd4b839de6ce2dee27e747e3b966f4be3", checked := Try.checked }
namespace Rows
def none {H : Type} : Left H := { results := [], args := [] }

/-- 'linesidelaw10.ShakeMakes': WHATEVER THE INPUT: true; the input reads as it did. -/
def shakeMakesSpec : ChangeSpec := { name := "shakeMakes", fn := fun _ => fun
  | [d1, d2, d3] => { results := [.lit (.bool true)], args := [d1, d2, d3] }
  | _ => none }
def shakeMakesRow : OpenClaim := { program := "ytekcnmimfhiblaa", sum := "2729c45b9cb238b7e2ca55b77298bcacd4b839de6ce2dee27e747e3b966f4be3", func := "lineside/linesidelaw10.ShakeMakes", spec := "shakeMakes", unfollowed := true, recurses := true, apart := false }
def ShakeMakesSaid : Prop := shakeMakesRow.holds Try.pinned (OpenSpec.ofChange shakeMakesSpec)

/-- ITS FALSE NEIGHBOUR: 'it returns false'. Refute it at one input. -/
def shakeMakesWrong : ChangeSpec := { name := "shakeMakes", fn := fun _ => fun
  | [d1, d2, d3] => { results := [.lit (.bool false)], args := [d1, d2, d3] }
  | _ => none }
def ShakeMakesWrongFalsely : Prop := shakeMakesRow.holds Try.pinned (OpenSpec.ofChange shakeMakesWrong)

/-- 'linesidelaw10.ShakeSends': WHATEVER THE INPUT: true; the input reads as it did. -/
def shakeSendsSpec : ChangeSpec := { name := "shakeSends", fn := fun _ => fun
  | [d1, d2, d3, d4] => { results := [.lit (.bool true)], args := [d1, d2, d3, d4] }
  | _ => none }
def shakeSendsRow : OpenClaim := { program := "ytekcnmimfhiblaa", sum := "2729c45b9cb238b7e2ca55b77298bcacd4b839de6ce2dee27e747e3b966f4be3", func := "lineside/linesidelaw10.ShakeSends", spec := "shakeSends", unfollowed := true, recurses := true, apart := false }
def ShakeSendsSaid : Prop := shakeSendsRow.holds Try.pinned (OpenSpec.ofChange shakeSendsSpec)

/-- ITS FALSE NEIGHBOUR: 'it returns false'. Refute it at one input. -/
def shakeSendsWrong : ChangeSpec := { name := "shakeSends", fn := fun _ => fun
  | [d1, d2, d3, d4] => { results := [.lit (.bool false)], args := [d1, d2, d3, d4] }
  | _ => none }
def ShakeSendsWrongFalsely : Prop := shakeSendsRow.holds Try.pinned (OpenSpec.ofChange shakeSendsWrong)

/-- 'linesidelaw10.ShakePasses': WHATEVER THE INPUT: true; the input reads as it did. -/
def shakePassesSpec : ChangeSpec := { name := "shakePasses", fn := fun _ => fun
  | [d1, d2, d3, d4, d5, d6, d7] => { results := [.lit (.bool true)], args := [d1, d2, d3, d4, d5, d6, d7] }
  | _ => none }
def shakePassesRow : OpenClaim := { program := "ytekcnmimfhiblaa", sum := "2729c45b9cb238b7e2ca55b77298bcacd4b839de6ce2dee27e747e3b966f4be3", func := "lineside/linesidelaw10.ShakePasses", spec := "shakePasses", unfollowed := true, recurses := true, apart := false }
def ShakePassesSaid : Prop := shakePassesRow.holds Try.pinned (OpenSpec.ofChange shakePassesSpec)

/-- ITS FALSE NEIGHBOUR: 'it returns false'. Refute it at one input. -/
def shakePassesWrong : ChangeSpec := { name := "shakePasses", fn := fun _ => fun
  | [d1, d2, d3, d4, d5, d6, d7] => { results := [.lit (.bool false)], args := [d1, d2, d3, d4, d5, d6, d7] }
  | _ => none }
def ShakePassesWrongFalsely : Prop := shakePassesRow.holds Try.pinned (OpenSpec.ofChange shakePassesWrong)

/-- 'linesidelaw10.ShakeOther': WHATEVER THE INPUT: true; the input reads as it did. -/
def shakeOtherSpec : ChangeSpec := { name := "shakeOther", fn := fun _ => fun
  | [d1, d2, d3, d4, d5, d6, d7, d8] => { results := [.lit (.bool true)], args := [d1, d2, d3, d4, d5, d6, d7, d8] }
  | _ => none }
def shakeOtherRow : OpenClaim := { program := "ytekcnmimfhiblaa", sum := "2729c45b9cb238b7e2ca55b77298bcacd4b839de6ce2dee27e747e3b966f4be3", func := "lineside/linesidelaw10.ShakeOther", spec := "shakeOther", unfollowed := true, recurses := true, apart := false }
def ShakeOtherSaid : Prop := shakeOtherRow.holds Try.pinned (OpenSpec.ofChange shakeOtherSpec)

/-- ITS FALSE NEIGHBOUR: 'it returns false'. Refute it at one input. -/
def shakeOtherWrong : ChangeSpec := { name := "shakeOther", fn := fun _ => fun
  | [d1, d2, d3, d4, d5, d6, d7, d8] => { results := [.lit (.bool false)], args := [d1, d2, d3, d4, d5, d6, d7, d8] }
  | _ => none }
def ShakeOtherWrongFalsely : Prop := shakeOtherRow.holds Try.pinned (OpenSpec.ofChange shakeOtherWrong)

/-- 'linesidelaw10.ShakeTurned': WHATEVER THE INPUT: true; the input reads as it did. -/
def shakeTurnedSpec : ChangeSpec := { name := "shakeTurned", fn := fun _ => fun
  | [d1, d2, d3, d4, d5, d6, d7] => { results := [.lit (.bool true)], args := [d1, d2, d3, d4, d5, d6, d7] }
  | _ => none }
def shakeTurnedRow : OpenClaim := { program := "ytekcnmimfhiblaa", sum := "2729c45b9cb238b7e2ca55b77298bcacd4b839de6ce2dee27e747e3b966f4be3", func := "lineside/linesidelaw10.ShakeTurned", spec := "shakeTurned", unfollowed := true, recurses := true, apart := false }
def ShakeTurnedSaid : Prop := shakeTurnedRow.holds Try.pinned (OpenSpec.ofChange shakeTurnedSpec)

/-- ITS FALSE NEIGHBOUR: 'it returns false'. Refute it at one input. -/
def shakeTurnedWrong : ChangeSpec := { name := "shakeTurned", fn := fun _ => fun
  | [d1, d2, d3, d4, d5, d6, d7] => { results := [.lit (.bool false)], args := [d1, d2, d3, d4, d5, d6, d7] }
  | _ => none }
def ShakeTurnedWrongFalsely : Prop := shakeTurnedRow.holds Try.pinned (OpenSpec.ofChange shakeTurnedWrong)

/-- 'linesidelaw10.ShakeKeeps': WHATEVER THE INPUT: true; the input reads as it did. -/
def shakeKeepsSpec : ChangeSpec := { name := "shakeKeeps", fn := fun _ => fun
  | [d1, d2, d3, d4, d5, d6, d7] => { results := [.lit (.bool true)], args := [d1, d2, d3, d4, d5, d6, d7] }
  | _ => none }
def shakeKeepsRow : OpenClaim := { program := "ytekcnmimfhiblaa", sum := "2729c45b9cb238b7e2ca55b77298bcacd4b839de6ce2dee27e747e3b966f4be3", func := "lineside/linesidelaw10.ShakeKeeps", spec := "shakeKeeps", unfollowed := true, recurses := true, apart := false }
def ShakeKeepsSaid : Prop := shakeKeepsRow.holds Try.pinned (OpenSpec.ofChange shakeKeepsSpec)

/-- ITS FALSE NEIGHBOUR: 'it returns false'. Refute it at one input. -/
def shakeKeepsWrong : ChangeSpec := { name := "shakeKeeps", fn := fun _ => fun
  | [d1, d2, d3, d4, d5, d6, d7] => { results := [.lit (.bool false)], args := [d1, d2, d3, d4, d5, d6, d7] }
  | _ => none }
def ShakeKeepsWrongFalsely : Prop := shakeKeepsRow.holds Try.pinned (OpenSpec.ofChange shakeKeepsWrong)

/- THE SECOND FORM. 'bulk': how many values and letters a reading holds, each counted each time it is reached (what is shared counts as often as it is met; a slice's spare places count too). A statement '..UptoSaid' is the law's where the arguments, and the package variables that the reading takes, are together of bulk at most 1048576: NARROWER than '..Said'. Prove '..Said' where nothing that the law and all that it calls make is longer than what came in: it says more and counts as full. Else prove '..UptoSaid'. A law counts once. -/
mutual
def uptoBulk {H : Type} : DataW H → Nat
  | .lit (.string bytes) => bytes.length + 1
  | .lit _ => 1
  | .nil => 1
  | .ptr d => uptoBulk d + 1
  | .slice elems spare => uptoBulkAll elems + uptoBulkAll spare + 1
  | .agg parts => uptoBulkAll parts + 1
  | .iface _ d => uptoBulk d + 1
  | .map entries => uptoBulkEntries entries + 1
  | .held _ => 1
def uptoBulkAll {H : Type} : List (DataW H) → Nat
  | [] => 0
  | d :: r => uptoBulk d + uptoBulkAll r
def uptoBulkEntries {H : Type} : List (Lit × DataW H) → Nat
  | [] => 0
  | x :: r => uptoBulkEntry x + uptoBulkEntries r
def uptoBulkEntry {H : Type} : Lit × DataW H → Nat
  | (.string bytes, d) => bytes.length + uptoBulk d + 1
  | (_, d) => uptoBulk d + 1
 end
def uptoSmall : (H : Type) → List (DataW H) → Bool := fun _ ds => decide (uptoBulkAll ds ≤ 1048576)
def OpenSpec.upto (s : _root_.Go.ChangeSpec) : _root_.Go.OpenSpec := { _root_.Go.OpenSpec.ofChange s with cond := some uptoSmall }

/-- 'linesidelaw10.ShakeMakes', WHERE WHAT IT READS IS OF BULK AT MOST 1048576: true; the input reads as it did. -/
def shakeMakesUptoRow : OpenClaim := { program := "ytekcnmimfhiblaa", sum := "2729c45b9cb238b7e2ca55b77298bcacd4b839de6ce2dee27e747e3b966f4be3", func := "lineside/linesidelaw10.ShakeMakes", spec := "shakeMakes", unfollowed := true, recurses := true, apart := false, narrowed := true }
def ShakeMakesUptoSaid : Prop := shakeMakesUptoRow.holds Try.pinned (OpenSpec.upto shakeMakesSpec)

/-- 'linesidelaw10.ShakeSends', WHERE WHAT IT READS IS OF BULK AT MOST 1048576: true; the input reads as it did. -/
def shakeSendsUptoRow : OpenClaim := { program := "ytekcnmimfhiblaa", sum := "2729c45b9cb238b7e2ca55b77298bcacd4b839de6ce2dee27e747e3b966f4be3", func := "lineside/linesidelaw10.ShakeSends", spec := "shakeSends", unfollowed := true, recurses := true, apart := false, narrowed := true }
def ShakeSendsUptoSaid : Prop := shakeSendsUptoRow.holds Try.pinned (OpenSpec.upto shakeSendsSpec)

/-- 'linesidelaw10.ShakePasses', WHERE WHAT IT READS IS OF BULK AT MOST 1048576: true; the input reads as it did. -/
def shakePassesUptoRow : OpenClaim := { program := "ytekcnmimfhiblaa", sum := "2729c45b9cb238b7e2ca55b77298bcacd4b839de6ce2dee27e747e3b966f4be3", func := "lineside/linesidelaw10.ShakePasses", spec := "shakePasses", unfollowed := true, recurses := true, apart := false, narrowed := true }
def ShakePassesUptoSaid : Prop := shakePassesUptoRow.holds Try.pinned (OpenSpec.upto shakePassesSpec)

/-- 'linesidelaw10.ShakeOther', WHERE WHAT IT READS IS OF BULK AT MOST 1048576: true; the input reads as it did. -/
def shakeOtherUptoRow : OpenClaim := { program := "ytekcnmimfhiblaa", sum := "2729c45b9cb238b7e2ca55b77298bcacd4b839de6ce2dee27e747e3b966f4be3", func := "lineside/linesidelaw10.ShakeOther", spec := "shakeOther", unfollowed := true, recurses := true, apart := false, narrowed := true }
def ShakeOtherUptoSaid : Prop := shakeOtherUptoRow.holds Try.pinned (OpenSpec.upto shakeOtherSpec)

/-- 'linesidelaw10.ShakeTurned', WHERE WHAT IT READS IS OF BULK AT MOST 1048576: true; the input reads as it did. -/
def shakeTurnedUptoRow : OpenClaim := { program := "ytekcnmimfhiblaa", sum := "2729c45b9cb238b7e2ca55b77298bcacd4b839de6ce2dee27e747e3b966f4be3", func := "lineside/linesidelaw10.ShakeTurned", spec := "shakeTurned", unfollowed := true, recurses := true, apart := false, narrowed := true }
def ShakeTurnedUptoSaid : Prop := shakeTurnedUptoRow.holds Try.pinned (OpenSpec.upto shakeTurnedSpec)

/-- 'linesidelaw10.ShakeKeeps', WHERE WHAT IT READS IS OF BULK AT MOST 1048576: true; the input reads as it did. -/
def shakeKeepsUptoRow : OpenClaim := { program := "ytekcnmimfhiblaa", sum := "2729c45b9cb238b7e2ca55b77298bcacd4b839de6ce2dee27e747e3b966f4be3", func := "lineside/linesidelaw10.ShakeKeeps", spec := "shakeKeeps", unfollowed := true, recurses := true, apart := false, narrowed := true }
def ShakeKeepsUptoSaid : Prop := shakeKeepsUptoRow.holds Try.pinned (OpenSpec.upto shakeKeepsSpec)

end Rows
end Go.Proofs.Ytekcnmimfhiblaa
