/-
  No cell of these rows narrows 'for every input' (looked for: loops, veiled, ifaces, maps, wideKeys, modest, calm, conditions, laid).
  DERIVED. THE GIVEN ROWS OF THIS SEAT. 6 by the template 'for every input the law returns true; each argument reads behind the call as it read before'; 0 by the template 'total and deterministic' (their statements: YtojbinpicoeppaaTotals.lean).
  GIVEN WITH THE SEED: the statements are not yours to turn. If you find one false, say at which input.
  Laid BY PROGRAM, IN A SANDBOX (cutbox-rows.mjs): the forced cells as the released guide's own fill.sh prints them over the translation 7011bdee685511be… (all of the seat's roots in one cut). By AI agents, Wed Nov 11 2026. No macro, syntax, notation, axiom, sorry.
-/
import Derived.Test.YtojbinpicoeppaaChecked
import GoSem.Claim
import GoSem.ClaimJoined
import GoSem.ClaimMapViews
import Derived.JoinedTies
import Derived.KernelRfl
namespace Go.Proofs.Ytojbinpicoeppaa
/- THE CELL 'sum', in the pinned program and in every row, IS THE sha256 OF THE DUMP (.gsa) THAT YtojbinpicoeppaaProg.lean LOADS. Nothing in Lean hashes anything: it is a label: what it is worth is what the hold of that sum in a sandbox is worth. -/
noncomputable def Try.pinned : Pinned := { name := "ytojbinpicoeppaa", sum := "7011bdee685511be06920ff1e5e0bad59dc68d44f8a8dc9b49602c2c4221fd8c", checked := Try.checked }
namespace Rows
def none {H : Type} : Left H := { results := [], args := [] }

/-- 'linesidelaw09.PduEncodes': WHATEVER THE INPUT: true; the input reads as it did. -/
def pduEncodesSpec : ChangeSpec := { name := "pduEncodes", fn := fun _ => fun
  | [d] => { results := [.lit (.bool true)], args := [d] }
  | _ => none }
def pduEncodesRow : OpenClaim := { program := "ytojbinpicoeppaa", sum := "7011bdee685511be06920ff1e5e0bad59dc68d44f8a8dc9b49602c2c4221fd8c", func := "lineside/linesidelaw09.PduEncodes", spec := "pduEncodes", unfollowed := true, recurses := true, apart := false }
def PduEncodesSaid : Prop := pduEncodesRow.holds Try.pinned (OpenSpec.ofChange pduEncodesSpec)

/-- ITS FALSE NEIGHBOUR: 'it returns false'. Refute it at one input. -/
def pduEncodesWrong : ChangeSpec := { name := "pduEncodes", fn := fun _ => fun
  | [d] => { results := [.lit (.bool false)], args := [d] }
  | _ => none }
def PduEncodesWrongFalsely : Prop := pduEncodesRow.holds Try.pinned (OpenSpec.ofChange pduEncodesWrong)

/-- 'linesidelaw09.PduDecodes': WHATEVER THE INPUT: true; the input reads as it did. -/
def pduDecodesSpec : ChangeSpec := { name := "pduDecodes", fn := fun _ => fun
  | [d] => { results := [.lit (.bool true)], args := [d] }
  | _ => none }
def pduDecodesRow : OpenClaim := { program := "ytojbinpicoeppaa", sum := "7011bdee685511be06920ff1e5e0bad59dc68d44f8a8dc9b49602c2c4221fd8c", func := "lineside/linesidelaw09.PduDecodes", spec := "pduDecodes", unfollowed := true, recurses := true, apart := false }
def PduDecodesSaid : Prop := pduDecodesRow.holds Try.pinned (OpenSpec.ofChange pduDecodesSpec)

/-- ITS FALSE NEIGHBOUR: 'it returns false'. Refute it at one input. -/
def pduDecodesWrong : ChangeSpec := { name := "pduDecodes", fn := fun _ => fun
  | [d] => { results := [.lit (.bool false)], args := [d] }
  | _ => none }
def PduDecodesWrongFalsely : Prop := pduDecodesRow.holds Try.pinned (OpenSpec.ofChange pduDecodesWrong)

/-- 'linesidelaw09.PduSeals': WHATEVER THE INPUT: true; the input reads as it did. -/
def pduSealsSpec : ChangeSpec := { name := "pduSeals", fn := fun _ => fun
  | [d1, d2] => { results := [.lit (.bool true)], args := [d1, d2] }
  | _ => none }
def pduSealsRow : OpenClaim := { program := "ytojbinpicoeppaa", sum := "7011bdee685511be06920ff1e5e0bad59dc68d44f8a8dc9b49602c2c4221fd8c", func := "lineside/linesidelaw09.PduSeals", spec := "pduSeals", unfollowed := true, recurses := true, apart := false }
def PduSealsSaid : Prop := pduSealsRow.holds Try.pinned (OpenSpec.ofChange pduSealsSpec)

/-- ITS FALSE NEIGHBOUR: 'it returns false'. Refute it at one input. -/
def pduSealsWrong : ChangeSpec := { name := "pduSeals", fn := fun _ => fun
  | [d1, d2] => { results := [.lit (.bool false)], args := [d1, d2] }
  | _ => none }
def PduSealsWrongFalsely : Prop := pduSealsRow.holds Try.pinned (OpenSpec.ofChange pduSealsWrong)

/-- 'linesidelaw09.PduBack': WHATEVER THE INPUT: true; the input reads as it did. -/
def pduBackSpec : ChangeSpec := { name := "pduBack", fn := fun _ => fun
  | [d] => { results := [.lit (.bool true)], args := [d] }
  | _ => none }
def pduBackRow : OpenClaim := { program := "ytojbinpicoeppaa", sum := "7011bdee685511be06920ff1e5e0bad59dc68d44f8a8dc9b49602c2c4221fd8c", func := "lineside/linesidelaw09.PduBack", spec := "pduBack", unfollowed := true, recurses := true, apart := false }
def PduBackSaid : Prop := pduBackRow.holds Try.pinned (OpenSpec.ofChange pduBackSpec)

/-- ITS FALSE NEIGHBOUR: 'it returns false'. Refute it at one input. -/
def pduBackWrong : ChangeSpec := { name := "pduBack", fn := fun _ => fun
  | [d] => { results := [.lit (.bool false)], args := [d] }
  | _ => none }
def PduBackWrongFalsely : Prop := pduBackRow.holds Try.pinned (OpenSpec.ofChange pduBackWrong)

/-- 'linesidelaw09.PduOnly': WHATEVER THE INPUT: true; the input reads as it did. -/
def pduOnlySpec : ChangeSpec := { name := "pduOnly", fn := fun _ => fun
  | [d] => { results := [.lit (.bool true)], args := [d] }
  | _ => none }
def pduOnlyRow : OpenClaim := { program := "ytojbinpicoeppaa", sum := "7011bdee685511be06920ff1e5e0bad59dc68d44f8a8dc9b49602c2c4221fd8c", func := "lineside/linesidelaw09.PduOnly", spec := "pduOnly", unfollowed := true, recurses := true, apart := false }
def PduOnlySaid : Prop := pduOnlyRow.holds Try.pinned (OpenSpec.ofChange pduOnlySpec)

/-- ITS FALSE NEIGHBOUR: 'it returns false'. Refute it at one input. -/
def pduOnlyWrong : ChangeSpec := { name := "pduOnly", fn := fun _ => fun
  | [d] => { results := [.lit (.bool false)], args := [d] }
  | _ => none }
def PduOnlyWrongFalsely : Prop := pduOnlyRow.holds Try.pinned (OpenSpec.ofChange pduOnlyWrong)

/-- 'linesidelaw09.PduTurned': WHATEVER THE INPUT: true; the input reads as it did. -/
def pduTurnedSpec : ChangeSpec := { name := "pduTurned", fn := fun _ => fun
  | [d1, d2, d3, d4] => { results := [.lit (.bool true)], args := [d1, d2, d3, d4] }
  | _ => none }
def pduTurnedRow : OpenClaim := { program := "ytojbinpicoeppaa", sum := "7011bdee685511be06920ff1e5e0bad59dc68d44f8a8dc9b49602c2c4221fd8c", func := "lineside/linesidelaw09.PduTurned", spec := "pduTurned", unfollowed := true, recurses := true, apart := false }
def PduTurnedSaid : Prop := pduTurnedRow.holds Try.pinned (OpenSpec.ofChange pduTurnedSpec)

/-- ITS FALSE NEIGHBOUR: 'it returns false'. Refute it at one input. -/
def pduTurnedWrong : ChangeSpec := { name := "pduTurned", fn := fun _ => fun
  | [d1, d2, d3, d4] => { results := [.lit (.bool false)], args := [d1, d2, d3, d4] }
  | _ => none }
def PduTurnedWrongFalsely : Prop := pduTurnedRow.holds Try.pinned (OpenSpec.ofChange pduTurnedWrong)

/- THE SECOND FORM. 'bulk': how many values and letters a reading holds, each counted each time it is reached (what is shared counts as often as it is met; a slice's spare places count too). A statement '..UptoSaid' is the law's where the arguments, and the package variables that the reading takes, are together of bulk at most 1048576: NARROWER than '..Said'. Prove '..Said' where nothing that the law and all that it calls make is longer than what came in: it says more and counts as full. Else prove '..UptoSaid'. A law counts once. -/
mutual
def uptoBulk {H : Type} : DataW H → Nat
  | .lit (.string bytes) => bytes.length + 1
  | .lit _ => 1
  | .nil => 1
  | .ptr d => uptoBulk d + 1
  | .slice elems spare => uptoBulkAll elems + uptoBulkAll spare + 1
  | .agg parts => uptoBulkAll parts + 1
  | .iface _ d => uptoBulk d + 1
  | .map entries => uptoBulkEntries entries + 1
  | .held _ => 1
def uptoBulkAll {H : Type} : List (DataW H) → Nat
  | [] => 0
  | d :: r => uptoBulk d + uptoBulkAll r
def uptoBulkEntries {H : Type} : List (Lit × DataW H) → Nat
  | [] => 0
  | x :: r => uptoBulkEntry x + uptoBulkEntries r
def uptoBulkEntry {H : Type} : Lit × DataW H → Nat
  | (.string bytes, d) => bytes.length + uptoBulk d + 1
  | (_, d) => uptoBulk d + 1
 end
def uptoSmall : (H : Type) → List (DataW H) → Bool := fun _ ds => decide (uptoBulkAll ds ≤ 1048576)
def OpenSpec.upto (s : _root_.Go.ChangeSpec) : _root_.Go.OpenSpec := { _root_.Go.OpenSpec.ofChange s with cond := some uptoSmall }

/-- 'linesidelaw09.PduEncodes', WHERE WHAT IT READS IS OF BULK AT MOST 1048576: true; the input reads as it did. -/
def pduEncodesUptoRow : OpenClaim := { program := "ytojbinpicoeppaa", sum := "7011bdee685511be06920ff1e5e0bad59dc68d44f8a8dc9b49602c2c4221fd8c", func := "lineside/linesidelaw09.PduEncodes", spec := "pduEncodes", unfollowed := true, recurses := true, apart := false, narrowed := true }
def PduEncodesUptoSaid : Prop := pduEncodesUptoRow.holds Try.pinned (OpenSpec.upto pduEncodesSpec)

/-- 'linesidelaw09.PduDecodes', WHERE WHAT IT READS IS OF BULK AT MOST 1048576: true; the input reads as it did. -/
def pduDecodesUptoRow : OpenClaim := { program := "ytojbinpicoeppaa", sum := "7011bdee685511be06920ff1e5e0bad59dc68d44f8a8dc9b49602c2c4221fd8c", func := "lineside/linesidelaw09.PduDecodes", spec := "pduDecodes", unfollowed := true, recurses := true, apart := false, narrowed := true }
def PduDecodesUptoSaid : Prop := pduDecodesUptoRow.holds Try.pinned (OpenSpec.upto pduDecodesSpec)

/-- 'linesidelaw09.PduSeals', WHERE WHAT IT READS IS OF BULK AT MOST 1048576: true; the input reads as it did. -/
def pduSealsUptoRow : OpenClaim := { program := "ytojbinpicoeppaa", sum := "7011bdee685511be06920ff1e5e0bad59dc68d44f8a8dc9b49602c2c4221fd8c", func := "lineside/linesidelaw09.PduSeals", spec := "pduSeals", unfollowed := true, recurses := true, apart := false, narrowed := true }
def PduSealsUptoSaid : Prop := pduSealsUptoRow.holds Try.pinned (OpenSpec.upto pduSealsSpec)

/-- 'linesidelaw09.PduBack', WHERE WHAT IT READS IS OF BULK AT MOST 1048576: true; the input reads as it did. -/
def pduBackUptoRow : OpenClaim := { program := "ytojbinpicoeppaa", sum := "7011bdee685511be06920ff1e5e0bad59dc68d44f8a8dc9b49602c2c4221fd8c", func := "lineside/linesidelaw09.PduBack", spec := "pduBack", unfollowed := true, recurses := true, apart := false, narrowed := true }
def PduBackUptoSaid : Prop := pduBackUptoRow.holds Try.pinned (OpenSpec.upto pduBackSpec)

/-- 'linesidelaw09.PduOnly', WHERE WHAT IT READS IS OF BULK AT MOST 1048576: true; the input reads as it did. -/
def pduOnlyUptoRow : OpenClaim := { program := "ytojbinpicoeppaa", sum := "7011bdee685511be06920ff1e5e0bad59dc68d44f8a8dc9b49602c2c4221fd8c", func := "lineside/linesidelaw09.PduOnly", spec := "pduOnly", unfollowed := true, recurses := true, apart := false, narrowed := true }
def PduOnlyUptoSaid : Prop := pduOnlyUptoRow.holds Try.pinned (OpenSpec.upto pduOnlySpec)

/-- 'linesidelaw09.PduTurned', WHERE WHAT IT READS IS OF BULK AT MOST 1048576: true; the input reads as it did. -/
def pduTurnedUptoRow : OpenClaim := { program := "ytojbinpicoeppaa", sum := "7011bdee685511be06920ff1e5e0bad59dc68d44f8a8dc9b49602c2c4221fd8c", func := "lineside/linesidelaw09.PduTurned", spec := "pduTurned", unfollowed := true, recurses := true, apart := false, narrowed := true }
def PduTurnedUptoSaid : Prop := pduTurnedUptoRow.holds Try.pinned (OpenSpec.upto pduTurnedSpec)

end Rows
end Go.Proofs.Ytojbinpicoeppaa
