/-
  No cell of these rows narrows 'for every input' (looked for: loops, veiled, ifaces, maps, wideKeys, modest, calm, conditions, laid).
  DERIVED. THE GIVEN ROWS OF THIS SEAT. 6 by the template 'for every input the law returns true; each argument reads behind the call as it read before'; 0 by the template 'total and deterministic' (their statements: YtahoaifhheaphaaTotals.lean).
  GIVEN WITH THE SEED: the statements are not yours to turn. If you find one false, say at which input.
  Laid BY PROGRAM, IN A SANDBOX (cutbox-rows.mjs): the forced cells as the released guide's own fill.sh prints them over the translation 74e8fab0c4aa9b84… (all of the seat's roots in one cut). By AI agents, Wed Nov 11 2026. No macro, syntax, notation, axiom, sorry.
-/
import Derived.Test.YtahoaifhheaphaaChecked
import GoSem.Claim
import GoSem.ClaimJoined
import GoSem.ClaimMapViews
import Derived.JoinedTies
import Derived.KernelRfl
namespace Go.Proofs.Ytahoaifhheaphaa
/- THE CELL 'sum', in the pinned program and in every row, IS THE sha256 OF THE DUMP (.gsa) THAT YtahoaifhheaphaaProg.lean LOADS. Nothing in Lean hashes anything: it is a label: what it is worth is what the hold of that sum in a sandbox is worth. -/
noncomputable def Try.pinned : Pinned := { name := "ytahoaifhheaphaa", sum := "74e8fab0c4aa9b84b4bd882f079c7852726aad16edcba066db8fca76096ff2c5", checked := Try.checked }
namespace Rows
def none {H : Type} : Left H := { results := [], args := [] }

/-- 'linesidelaw03.ScaleDms': WHATEVER THE INPUT: true; the input reads as it did. -/
def scaleDmsSpec : ChangeSpec := { name := "scaleDms", fn := fun _ => fun
  | [d1, d2] => { results := [.lit (.bool true)], args := [d1, d2] }
  | _ => none }
def scaleDmsRow : OpenClaim := { program := "ytahoaifhheaphaa", sum := "74e8fab0c4aa9b84b4bd882f079c7852726aad16edcba066db8fca76096ff2c5", func := "lineside/linesidelaw03.ScaleDms", spec := "scaleDms", apart := false }
def ScaleDmsSaid : Prop := scaleDmsRow.holds Try.pinned (OpenSpec.ofChange scaleDmsSpec)

/-- ITS FALSE NEIGHBOUR: 'it returns false'. Refute it at one input. -/
def scaleDmsWrong : ChangeSpec := { name := "scaleDms", fn := fun _ => fun
  | [d1, d2] => { results := [.lit (.bool false)], args := [d1, d2] }
  | _ => none }
def ScaleDmsWrongFalsely : Prop := scaleDmsRow.holds Try.pinned (OpenSpec.ofChange scaleDmsWrong)

/-- 'linesidelaw03.ScaleScales': WHATEVER THE INPUT: true; the input reads as it did. -/
def scaleScalesSpec : ChangeSpec := { name := "scaleScales", fn := fun _ => fun
  | [d1, d2] => { results := [.lit (.bool true)], args := [d1, d2] }
  | _ => none }
def scaleScalesRow : OpenClaim := { program := "ytahoaifhheaphaa", sum := "74e8fab0c4aa9b84b4bd882f079c7852726aad16edcba066db8fca76096ff2c5", func := "lineside/linesidelaw03.ScaleScales", spec := "scaleScales", apart := false }
def ScaleScalesSaid : Prop := scaleScalesRow.holds Try.pinned (OpenSpec.ofChange scaleScalesSpec)

/-- ITS FALSE NEIGHBOUR: 'it returns false'. Refute it at one input. -/
def scaleScalesWrong : ChangeSpec := { name := "scaleScales", fn := fun _ => fun
  | [d1, d2] => { results := [.lit (.bool false)], args := [d1, d2] }
  | _ => none }
def ScaleScalesWrongFalsely : Prop := scaleScalesRow.holds Try.pinned (OpenSpec.ofChange scaleScalesWrong)

/-- 'linesidelaw03.ScaleSums': WHATEVER THE INPUT: true; the input reads as it did. -/
def scaleSumsSpec : ChangeSpec := { name := "scaleSums", fn := fun _ => fun
  | [d1, d2] => { results := [.lit (.bool true)], args := [d1, d2] }
  | _ => none }
def scaleSumsRow : OpenClaim := { program := "ytahoaifhheaphaa", sum := "74e8fab0c4aa9b84b4bd882f079c7852726aad16edcba066db8fca76096ff2c5", func := "lineside/linesidelaw03.ScaleSums", spec := "scaleSums", apart := false }
def ScaleSumsSaid : Prop := scaleSumsRow.holds Try.pinned (OpenSpec.ofChange scaleSumsSpec)

/-- ITS FALSE NEIGHBOUR: 'it returns false'. Refute it at one input. -/
def scaleSumsWrong : ChangeSpec := { name := "scaleSums", fn := fun _ => fun
  | [d1, d2] => { results := [.lit (.bool false)], args := [d1, d2] }
  | _ => none }
def ScaleSumsWrongFalsely : Prop := scaleSumsRow.holds Try.pinned (OpenSpec.ofChange scaleSumsWrong)

/-- 'linesidelaw03.ScaleBack': WHATEVER THE INPUT: true; the input reads as it did. -/
def scaleBackSpec : ChangeSpec := { name := "scaleBack", fn := fun _ => fun
  | [d1, d2] => { results := [.lit (.bool true)], args := [d1, d2] }
  | _ => none }
def scaleBackRow : OpenClaim := { program := "ytahoaifhheaphaa", sum := "74e8fab0c4aa9b84b4bd882f079c7852726aad16edcba066db8fca76096ff2c5", func := "lineside/linesidelaw03.ScaleBack", spec := "scaleBack", apart := false }
def ScaleBackSaid : Prop := scaleBackRow.holds Try.pinned (OpenSpec.ofChange scaleBackSpec)

/-- ITS FALSE NEIGHBOUR: 'it returns false'. Refute it at one input. -/
def scaleBackWrong : ChangeSpec := { name := "scaleBack", fn := fun _ => fun
  | [d1, d2] => { results := [.lit (.bool false)], args := [d1, d2] }
  | _ => none }
def ScaleBackWrongFalsely : Prop := scaleBackRow.holds Try.pinned (OpenSpec.ofChange scaleBackWrong)

/-- 'linesidelaw03.ScaleRounds': WHATEVER THE INPUT: true; the input reads as it did. -/
def scaleRoundsSpec : ChangeSpec := { name := "scaleRounds", fn := fun _ => fun
  | [d1, d2] => { results := [.lit (.bool true)], args := [d1, d2] }
  | _ => none }
def scaleRoundsRow : OpenClaim := { program := "ytahoaifhheaphaa", sum := "74e8fab0c4aa9b84b4bd882f079c7852726aad16edcba066db8fca76096ff2c5", func := "lineside/linesidelaw03.ScaleRounds", spec := "scaleRounds", apart := false }
def ScaleRoundsSaid : Prop := scaleRoundsRow.holds Try.pinned (OpenSpec.ofChange scaleRoundsSpec)

/-- ITS FALSE NEIGHBOUR: 'it returns false'. Refute it at one input. -/
def scaleRoundsWrong : ChangeSpec := { name := "scaleRounds", fn := fun _ => fun
  | [d1, d2] => { results := [.lit (.bool false)], args := [d1, d2] }
  | _ => none }
def ScaleRoundsWrongFalsely : Prop := scaleRoundsRow.holds Try.pinned (OpenSpec.ofChange scaleRoundsWrong)

/-- 'linesidelaw03.ScaleTogether': WHATEVER THE INPUT: true; the input reads as it did. -/
def scaleTogetherSpec : ChangeSpec := { name := "scaleTogether", fn := fun _ => fun
  | [d1, d2, d3] => { results := [.lit (.bool true)], args := [d1, d2, d3] }
  | _ => none }
def scaleTogetherRow : OpenClaim := { program := "ytahoaifhheaphaa", sum := "74e8fab0c4aa9b84b4bd882f079c7852726aad16edcba066db8fca76096ff2c5", func := "lineside/linesidelaw03.ScaleTogether", spec := "scaleTogether", apart := false }
def ScaleTogetherSaid : Prop := scaleTogetherRow.holds Try.pinned (OpenSpec.ofChange scaleTogetherSpec)

/-- ITS FALSE NEIGHBOUR: 'it returns false'. Refute it at one input. -/
def scaleTogetherWrong : ChangeSpec := { name := "scaleTogether", fn := fun _ => fun
  | [d1, d2, d3] => { results := [.lit (.bool false)], args := [d1, d2, d3] }
  | _ => none }
def ScaleTogetherWrongFalsely : Prop := scaleTogetherRow.holds Try.pinned (OpenSpec.ofChange scaleTogetherWrong)

/- THE SECOND FORM. 'bulk': how many values and letters a reading holds, each counted each time it is reached (what is shared counts as often as it is met; a slice's spare places count too). A statement '..UptoSaid' is the law's where the arguments, and the package variables that the reading takes, are together of bulk at most 1048576: NARROWER than '..Said'. Prove '..Said' where nothing that the law and all that it calls make is longer than what came in: it says more and counts as full. Else prove '..UptoSaid'. A law counts once. -/
mutual
def uptoBulk {H : Type} : DataW H → Nat
  | .lit (.string bytes) => bytes.length + 1
  | .lit _ => 1
  | .nil => 1
  | .ptr d => uptoBulk d + 1
  | .slice elems spare => uptoBulkAll elems + uptoBulkAll spare + 1
  | .agg parts => uptoBulkAll parts + 1
  | .iface _ d => uptoBulk d + 1
  | .map entries => uptoBulkEntries entries + 1
  | .held _ => 1
def uptoBulkAll {H : Type} : List (DataW H) → Nat
  | [] => 0
  | d :: r => uptoBulk d + uptoBulkAll r
def uptoBulkEntries {H : Type} : List (Lit × DataW H) → Nat
  | [] => 0
  | x :: r => uptoBulkEntry x + uptoBulkEntries r
def uptoBulkEntry {H : Type} : Lit × DataW H → Nat
  | (.string bytes, d) => bytes.length + uptoBulk d + 1
  | (_, d) => uptoBulk d + 1
 end
def uptoSmall : (H : Type) → List (DataW H) → Bool := fun _ ds => decide (uptoBulkAll ds ≤ 1048576)
def OpenSpec.upto (s : _root_.Go.ChangeSpec) : _root_.Go.OpenSpec := { _root_.Go.OpenSpec.ofChange s with cond := some uptoSmall }

/-- 'linesidelaw03.ScaleDms', WHERE WHAT IT READS IS OF BULK AT MOST 1048576: true; the input reads as it did. -/
def scaleDmsUptoRow : OpenClaim := { program := "ytahoaifhheaphaa", sum := "74e8fab0c4aa9b84b4bd882f079c7852726aad16edcba066db8fca76096ff2c5", func := "lineside/linesidelaw03.ScaleDms", spec := "scaleDms", apart := false, narrowed := true }
def ScaleDmsUptoSaid : Prop := scaleDmsUptoRow.holds Try.pinned (OpenSpec.upto scaleDmsSpec)

/-- 'linesidelaw03.ScaleScales', WHERE WHAT IT READS IS OF BULK AT MOST 1048576: true; the input reads as it did. -/
def scaleScalesUptoRow : OpenClaim := { program := "ytahoaifhheaphaa", sum := "74e8fab0c4aa9b84b4bd882f079c7852726aad16edcba066db8fca76096ff2c5", func := "lineside/linesidelaw03.ScaleScales", spec := "scaleScales", apart := false, narrowed := true }
def ScaleScalesUptoSaid : Prop := scaleScalesUptoRow.holds Try.pinned (OpenSpec.upto scaleScalesSpec)

/-- 'linesidelaw03.ScaleSums', WHERE WHAT IT READS IS OF BULK AT MOST 1048576: true; the input reads as it did. -/
def scaleSumsUptoRow : OpenClaim := { program := "ytahoaifhheaphaa", sum := "74e8fab0c4aa9b84b4bd882f079c7852726aad16edcba066db8fca76096ff2c5", func := "lineside/linesidelaw03.ScaleSums", spec := "scaleSums", apart := false, narrowed := true }
def ScaleSumsUptoSaid : Prop := scaleSumsUptoRow.holds Try.pinned (OpenSpec.upto scaleSumsSpec)

/-- 'linesidelaw03.ScaleBack', WHERE WHAT IT READS IS OF BULK AT MOST 1048576: true; the input reads as it did. -/
def scaleBackUptoRow : OpenClaim := { program := "ytahoaifhheaphaa", sum := "74e8fab0c4aa9b84b4bd882f079c7852726aad16edcba066db8fca76096ff2c5", func := "lineside/linesidelaw03.ScaleBack", spec := "scaleBack", apart := false, narrowed := true }
def ScaleBackUptoSaid : Prop := scaleBackUptoRow.holds Try.pinned (OpenSpec.upto scaleBackSpec)

/-- 'linesidelaw03.ScaleRounds', WHERE WHAT IT READS IS OF BULK AT MOST 1048576: true; the input reads as it did. -/
def scaleRoundsUptoRow : OpenClaim := { program := "ytahoaifhheaphaa", sum := "74e8fab0c4aa9b84b4bd882f079c7852726aad16edcba066db8fca76096ff2c5", func := "lineside/linesidelaw03.ScaleRounds", spec := "scaleRounds", apart := false, narrowed := true }
def ScaleRoundsUptoSaid : Prop := scaleRoundsUptoRow.holds Try.pinned (OpenSpec.upto scaleRoundsSpec)

/-- 'linesidelaw03.ScaleTogether', WHERE WHAT IT READS IS OF BULK AT MOST 1048576: true; the input reads as it did. -/
def scaleTogetherUptoRow : OpenClaim := { program := "ytahoaifhheaphaa", sum := "74e8fab0c4aa9b84b4bd882f079c7852726aad16edcba066db8fca76096ff2c5", func := "lineside/linesidelaw03.ScaleTogether", spec := "scaleTogether", apart := false, narrowed := true }
def ScaleTogetherUptoSaid : Prop := scaleTogetherUptoRow.holds Try.pinned (OpenSpec.upto scaleTogetherSpec)

end Rows
end Go.Proofs.Ytahoaifhheaphaa
