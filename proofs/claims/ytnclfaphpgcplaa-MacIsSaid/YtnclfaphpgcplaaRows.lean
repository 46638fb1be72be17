/-
  No cell of these rows narrows 'for every input' (looked for: loops, veiled, ifaces, maps, wideKeys, modest, calm, conditions, laid).
  DERIVED. THE GIVEN ROWS OF THIS SEAT. 5 by the template 'for every input the law returns true; each argument reads behind the call as it read before'; 0 by the template 'total and deterministic' (their statements: YtnclfaphpgcplaaTotals.lean).
  GIVEN WITH THE SEED: the statements are not yours to turn. If you find one false, say at which input.
  Laid BY PROGRAM, IN A SANDBOX (cutbox-rows.mjs): the forced cells as the released guide's own fill.sh prints them over the translation c957dccf1c3cdfbc… (all of the seat's roots in one cut). By AI agents, Wed Nov 11 2026. No macro, syntax, notation, axiom, sorry.
-/
import Derived.Test.YtnclfaphpgcplaaChecked
import GoSem.Claim
import GoSem.ClaimJoined
import GoSem.ClaimMapViews
import Derived.JoinedTies
import Derived.KernelRfl
namespace Go.Proofs.Ytnclfaphpgcplaa
/- THE CELL 'sum', in the pinned program and in every row, IS THE sha256 OF THE DUMP (.gsa) THAT YtnclfaphpgcplaaProg.lean LOADS. Nothing in Lean hashes anything: it is a label: what it is worth is what the hold of that sum in a sandbox is worth. -/
noncomputable def Try.pinned : Pinned := { name := "ytnclfaphpgcplaa", sum := "c957dccf1c3cdfbc88bb5e5879f750ead1d122e48b21f89893c03af1c6f8a001", checked := Try.checked }
namespace Rows
def none {H : Type} : Left H := { results := [], args := [] }

/-- 'linesidelaw08.MacIs': WHATEVER THE INPUT: true; the input reads as it did. -/
def macIsSpec : ChangeSpec := { name := "macIs", fn := fun _ => fun
  | [d1, d2] => { results := [.lit (.bool true)], args := [d1, d2] }
  | _ => none }
def macIsRow : OpenClaim := { program := "ytnclfaphpgcplaa", sum := "c957dccf1c3cdfbc88bb5e5879f750ead1d122e48b21f89893c03af1c6f8a001", func := "lineside/linesidelaw08.MacIs", spec := "macIs", unfollowed := true, recurses := true, apart := false }
def MacIsSaid : Prop := macIsRow.holds Try.pinned (OpenSpec.ofChange macIsSpec)

/-- ITS FALSE NEIGHBOUR: 'it returns false'. Refute it at one input. -/
def macIsWrong : ChangeSpec := { name := "macIs", fn := fun _ => fun
  | [d1, d2] => { results := [.lit (.bool false)], args := [d1, d2] }
  | _ => none }
def MacIsWrongFalsely : Prop := macIsRow.holds Try.pinned (OpenSpec.ofChange macIsWrong)

/-- 'linesidelaw08.MacDerives': WHATEVER THE INPUT: true; the input reads as it did. -/
def macDerivesSpec : ChangeSpec := { name := "macDerives", fn := fun _ => fun
  | [d1, d2, d3] => { results := [.lit (.bool true)], args := [d1, d2, d3] }
  | _ => none }
def macDerivesRow : OpenClaim := { program := "ytnclfaphpgcplaa", sum := "c957dccf1c3cdfbc88bb5e5879f750ead1d122e48b21f89893c03af1c6f8a001", func := "lineside/linesidelaw08.MacDerives", spec := "macDerives", unfollowed := true, recurses := true, apart := false }
def MacDerivesSaid : Prop := macDerivesRow.holds Try.pinned (OpenSpec.ofChange macDerivesSpec)

/-- ITS FALSE NEIGHBOUR: 'it returns false'. Refute it at one input. -/
def macDerivesWrong : ChangeSpec := { name := "macDerives", fn := fun _ => fun
  | [d1, d2, d3] => { results := [.lit (.bool false)], args := [d1, d2, d3] }
  | _ => none }
def MacDerivesWrongFalsely : Prop := macDerivesRow.holds Try.pinned (OpenSpec.ofChange macDerivesWrong)

/-- 'linesidelaw08.MacTurned': WHATEVER THE INPUT: true; the input reads as it did. -/
def macTurnedSpec : ChangeSpec := { name := "macTurned", fn := fun _ => fun
  | [d1, d2, d3, d4] => { results := [.lit (.bool true)], args := [d1, d2, d3, d4] }
  | _ => none }
def macTurnedRow : OpenClaim := { program := "ytnclfaphpgcplaa", sum := "c957dccf1c3cdfbc88bb5e5879f750ead1d122e48b21f89893c03af1c6f8a001", func := "lineside/linesidelaw08.MacTurned", spec := "macTurned", unfollowed := true, recurses := true, apart := false }
def MacTurnedSaid : Prop := macTurnedRow.holds Try.pinned (OpenSpec.ofChange macTurnedSpec)

/-- ITS FALSE NEIGHBOUR: 'it returns false'. Refute it at one input. -/
def macTurnedWrong : ChangeSpec := { name := "macTurned", fn := fun _ => fun
  | [d1, d2, d3, d4] => { results := [.lit (.bool false)], args := [d1, d2, d3, d4] }
  | _ => none }
def MacTurnedWrongFalsely : Prop := macTurnedRow.holds Try.pinned (OpenSpec.ofChange macTurnedWrong)

/-- 'linesidelaw08.MacGrows': WHATEVER THE INPUT: true; the input reads as it did. -/
def macGrowsSpec : ChangeSpec := { name := "macGrows", fn := fun _ => fun
  | [d1, d2, d3, d4] => { results := [.lit (.bool true)], args := [d1, d2, d3, d4] }
  | _ => none }
def macGrowsRow : OpenClaim := { program := "ytnclfaphpgcplaa", sum := "c957dccf1c3cdfbc88bb5e5879f750ead1d122e48b21f89893c03af1c6f8a001", func := "lineside/linesidelaw08.MacGrows", spec := "macGrows", unfollowed := true, recurses := true, apart := false }
def MacGrowsSaid : Prop := macGrowsRow.holds Try.pinned (OpenSpec.ofChange macGrowsSpec)

/-- ITS FALSE NEIGHBOUR: 'it returns false'. Refute it at one input. -/
def macGrowsWrong : ChangeSpec := { name := "macGrows", fn := fun _ => fun
  | [d1, d2, d3, d4] => { results := [.lit (.bool false)], args := [d1, d2, d3, d4] }
  | _ => none }
def MacGrowsWrongFalsely : Prop := macGrowsRow.holds Try.pinned (OpenSpec.ofChange macGrowsWrong)

/-- 'linesidelaw08.MacApart': WHATEVER THE INPUT: true; the input reads as it did. -/
def macApartSpec : ChangeSpec := { name := "macApart", fn := fun _ => fun
  | [d1, d2, d3, d4, d5] => { results := [.lit (.bool true)], args := [d1, d2, d3, d4, d5] }
  | _ => none }
def macApartRow : OpenClaim := { program := "ytnclfaphpgcplaa", sum := "c957dccf1c3cdfbc88bb5e5879f750ead1d122e48b21f89893c03af1c6f8a001", func := "lineside/linesidelaw08.MacApart", spec := "macApart", unfollowed := true, recurses := true, apart := false }
def MacApartSaid : Prop := macApartRow.holds Try.pinned (OpenSpec.ofChange macApartSpec)

/-- ITS FALSE NEIGHBOUR: 'it returns false'. Refute it at one input. -/
def macApartWrong : ChangeSpec := { name := "macApart", fn := fun _ => fun
  | [d1, d2, d3, d4, d5] => { results := [.lit (.bool false)], args := [d1, d2, d3, d4, d5] }
  | _ => none }
def MacApartWrongFalsely : Prop := macApartRow.holds Try.pinned (OpenSpec.ofChange macApartWrong)

/- THE SECOND FORM. 'bulk': how many values and letters a reading holds, each counted each time it is reached (what is shared counts as often as it is met; a slice's spare places count too). A statement '..UptoSaid' is the law's where the arguments, and the package variables that the reading takes, are together of bulk at most 1048576: NARROWER than '..Said'. Prove '..Said' where nothing that the law and all that it calls make is longer than what came in: it says more and counts as full. Else prove '..UptoSaid'. A law counts once. -/
mutual
def uptoBulk {H : Type} : DataW H → Nat
  | .lit (.string bytes) => bytes.length + 1
  | .lit _ => 1
  | .nil => 1
  | .ptr d => uptoBulk d + 1
  | .slice elems spare => uptoBulkAll elems + uptoBulkAll spare + 1
  | .agg parts => uptoBulkAll parts + 1
  | .iface _ d => uptoBulk d + 1
  | .map entries => uptoBulkEntries entries + 1
  | .held _ => 1
def uptoBulkAll {H : Type} : List (DataW H) → Nat
  | [] => 0
  | d :: r => uptoBulk d + uptoBulkAll r
def uptoBulkEntries {H : Type} : List (Lit × DataW H) → Nat
  | [] => 0
  | x :: r => uptoBulkEntry x + uptoBulkEntries r
def uptoBulkEntry {H : Type} : Lit × DataW H → Nat
  | (.string bytes, d) => bytes.length + uptoBulk d + 1
  | (_, d) => uptoBulk d + 1
 end
def uptoSmall : (H : Type) → List (DataW H) → Bool := fun _ ds => decide (uptoBulkAll ds ≤ 1048576)
def OpenSpec.upto (s : _root_.Go.ChangeSpec) : _root_.Go.OpenSpec := { _root_.Go.OpenSpec.ofChange s with cond := some uptoSmall }

/-- 'linesidelaw08.MacIs', WHERE WHAT IT READS IS OF BULK AT MOST 1048576: true; the input reads as it did. -/
def macIsUptoRow : OpenClaim := { program := "ytnclfaphpgcplaa", sum := "c957dccf1c3cdfbc88bb5e5879f750ead1d122e48b21f89893c03af1c6f8a001", func := "lineside/linesidelaw08.MacIs", spec := "macIs", unfollowed := true, recurses := true, apart := false, narrowed := true }
def MacIsUptoSaid : Prop := macIsUptoRow.holds Try.pinned (OpenSpec.upto macIsSpec)

/-- 'linesidelaw08.MacDerives', WHERE WHAT IT READS IS OF BULK AT MOST 1048576: true; the input reads as it did. -/
def macDerivesUptoRow : OpenClaim := { program := "ytnclfaphpgcplaa", sum := "c957dccf1c3cdfbc88bb5e5879f750ead1d122e48b21f89893c03af1c6f8a001", func := "lineside/linesidelaw08.MacDerives", spec := "macDerives", unfollowed := true, recurses := true, apart := false, narrowed := true }
def MacDerivesUptoSaid : Prop := macDerivesUptoRow.holds Try.pinned (OpenSpec.upto macDerivesSpec)

/-- 'linesidelaw08.MacTurned', WHERE WHAT IT READS IS OF BULK AT MOST 1048576: true; the input reads as it did. -/
def macTurnedUptoRow : OpenClaim := { program := "ytnclfaphpgcplaa", sum := "c957dccf1c3cdfbc88bb5e5879f750ead1d122e48b21f89893c03af1c6f8a001", func := "lineside/linesidelaw08.MacTurned", spec := "macTurned", unfollowed := true, recurses := true, apart := false, narrowed := true }
def MacTurnedUptoSaid : Prop := macTurnedUptoRow.holds Try.pinned (OpenSpec.upto macTurnedSpec)

/-- 'linesidelaw08.MacGrows', WHERE WHAT IT READS IS OF BULK AT MOST 1048576: true; the input reads as it did. -/
def macGrowsUptoRow : OpenClaim := { program := "ytnclfaphpgcplaa", sum := "c957dccf1c3cdfbc88bb5e5879f750ead1d122e48b21f89893c03af1c6f8a001", func := "lineside/linesidelaw08.MacGrows", spec := "macGrows", unfollowed := true, recurses := true, apart := false, narrowed := true }
def MacGrowsUptoSaid : Prop := macGrowsUptoRow.holds Try.pinned (OpenSpec.upto macGrowsSpec)

/-- 'linesidelaw08.MacApart', WHERE WHAT IT READS IS OF BULK AT MOST 1048576: true; the input reads as it did. -/
def macApartUptoRow : OpenClaim := { program := "ytnclfaphpgcplaa", sum := "c957dccf1c3cdfbc88bb5e5879f750ead1d122e48b21f89893c03af1c6f8a001", func := "lineside/linesidelaw08.MacApart", spec := "macApart", unfollowed := true, recurses := true, apart := false, narrowed := true }
def MacApartUptoSaid : Prop := macApartUptoRow.holds Try.pinned (OpenSpec.upto macApartSpec)

end Rows
end Go.Proofs.Ytnclfaphpgcplaa
