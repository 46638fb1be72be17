/-
  NARROWER THAN 'FOR EVERY INPUT', by the rows' own cells (each row's printed sentence says how): PacketItems: laid · PacketGets: laid · PacketBack: laid · PacketOnly: laid · PacketCut: laid · PacketOne: laid.
  DERIVED. THE GIVEN ROWS OF THIS SEAT. 6 by the template 'for every input the law returns true; each argument reads behind the call as it read before'; 0 by the template 'total and deterministic' (their statements: YtccmickemglmaaaDoorTotals.lean).
  GIVEN WITH THE SEED: the statements are not yours to turn. If you find one false, say at which input.
  Laid BY PROGRAM, IN A SANDBOX (cutbox-rows.mjs): the forced cells as the released guide's own fill.sh prints them over the translation 964a00c3d8321cf7… (all of the seat's roots in one cut). By AI agents, Wed Nov 11 2026. No macro, syntax, notation, axiom, sorry.
-/
import Derived.Test.YtccmickemglmaaaDoorChecked
import GoSem.Claim
import GoSem.ClaimJoined
import GoSem.ClaimMapViews
import Derived.JoinedTies
import Derived.KernelRfl
namespace Go.Proofs.YtccmickemglmaaaDoor
/- THE CELL 'sum', in the pinned program and in every row, IS THE sha256 OF THE DUMP (.gsa) THAT YtccmickemglmaaaDoorProg.lean LOADS. Nothing in Lean hashes anything: it is a label: what it is worth is what the hold of that sum in a sandbox is worth. -/
noncomputable def Tryd.pinned : Pinned := { name := "ytccmickemglmaaadoor", sum := "964a00c3d8321cf7ff4870c70c735a335cc42949ce34891f853c5e3638f875f4", checked := Tryd.checked }
namespace Rows
def none {H : Type} : Left H := { results := [], args := [] }

/- WHAT THE LISTED PACKAGE-LEVEL VARIABLES READ AS WHEN THE CALL BEGINS. Each datum BY PROGRAM (the guide's laid-datum.mjs) off the statement by which the dump's own 'gosem.cut.vars' lays the variable. In a bare row this is a premise. The card (YtccmickemglmaaaDoorCards.lean) ties it to the program's text. -/
def laid_lineside_vars_widths {H : Type} : DataW H := .agg [.lit (.int .i64 8), .lit (.int .i64 10), .lit (.int .i64 32), .lit (.int .i64 1), .lit (.int .i64 24), .lit (.int .i64 8), .lit (.int .i64 2), .lit (.int .i64 13), .lit (.int .i64 2), .lit (.int .i64 24), .lit (.int .i64 10), .lit (.int .i64 14), .lit (.int .i64 1), .lit (.int .i64 15), .lit (.int .i64 2), .lit (.int .i64 2), .lit (.int .i64 15), .lit (.int .i64 15), .lit (.int .i64 2), .lit (.int .i64 15), .lit (.int .i64 7), .lit (.int .i64 2), .lit (.int .i64 4), .lit (.int .i64 3), .lit (.int .i64 8), .lit (.int .i64 7), .lit (.int .i64 10), .lit (.int .i64 5), .lit (.int .i64 15), .lit (.int .i64 1), .lit (.int .i64 10), .lit (.int .i64 15), .lit (.int .i64 15), .lit (.int .i64 1), .lit (.int .i64 10), .lit (.int .i64 15), .lit (.int .i64 1), .lit (.int .i64 15), .lit (.int .i64 7), .lit (.int .i64 1), .lit (.int .i64 15), .lit (.int .i64 10), .lit (.int .i64 15), .lit (.int .i64 7), .lit (.int .i64 15), .lit (.int .i64 1), .lit (.int .i64 2), .lit (.int .i64 6), .lit (.int .i64 15), .lit (.int .i64 1), .lit (.int .i64 8), .lit (.int .i64 15), .lit (.int .i64 7), .lit (.int .i64 1), .lit (.int .i64 4), .lit (.int .i64 7), .lit (.int .i64 15), .lit (.int .i64 2), .lit (.int .i64 7), .lit (.int .i64 15), .lit (.int .i64 15), .lit (.int .i64 1), .lit (.int .i64 1), .lit (.int .i64 14), .lit (.int .i64 32), .lit (.int .i64 1), .lit (.int .i64 8), .lit (.int .i64 10), .lit (.int .i64 8), .lit (.int .i64 8), .lit (.int .i64 15), .lit (.int .i64 3), .lit (.int .i64 15), .lit (.int .i64 1), .lit (.int .i64 24), .lit (.int .i64 32), .lit (.int .i64 15), .lit (.int .i64 12), .lit (.int .i64 7), .lit (.int .i64 8), .lit (.int .i64 7), .lit (.int .i64 2), .lit (.int .i64 8), .lit (.int .i64 8), .lit (.int .i64 15), .lit (.int .i64 7), .lit (.int .i64 8), .lit (.int .i64 2), .lit (.int .i64 4), .lit (.int .i64 16), .lit (.int .i64 15), .lit (.int .i64 2), .lit (.int .i64 7), .lit (.int .i64 2), .lit (.int .i64 5), .lit (.int .i64 15)]

/-- 'linesidelaw05.PacketItems': WHATEVER THE INPUT: true; the input reads as it did. -/
def packetItemsSpec : ChangeSpec := { name := "packetItems", fn := fun _ => fun
  | [d] => { results := [.lit (.bool true)], args := [d] }
  | _ => none }
def packetItemsRow : OpenClaim := { program := "ytccmickemglmaaadoor", sum := "964a00c3d8321cf7ff4870c70c735a335cc42949ce34891f853c5e3638f875f4", func := "lineside/linesidelaw05.PacketItems", spec := "packetItems", unfollowed := true, recurses := true, named := ["lineside/vars.widths"], apart := false, laid := [("lineside/vars.widths", laid_lineside_vars_widths)] }
def PacketItemsSaid : Prop := packetItemsRow.holds Tryd.pinned (OpenSpec.ofChange packetItemsSpec)

/-- ITS FALSE NEIGHBOUR: 'it returns false'. Refute it at one input. -/
def packetItemsWrong : ChangeSpec := { name := "packetItems", fn := fun _ => fun
  | [d] => { results := [.lit (.bool false)], args := [d] }
  | _ => none }
def PacketItemsWrongFalsely : Prop := packetItemsRow.holds Tryd.pinned (OpenSpec.ofChange packetItemsWrong)

/-- 'linesidelaw05.PacketGets': WHATEVER THE INPUT: true; the input reads as it did. -/
def packetGetsSpec : ChangeSpec := { name := "packetGets", fn := fun _ => fun
  | [d1, d2] => { results := [.lit (.bool true)], args := [d1, d2] }
  | _ => none }
def packetGetsRow : OpenClaim := { program := "ytccmickemglmaaadoor", sum := "964a00c3d8321cf7ff4870c70c735a335cc42949ce34891f853c5e3638f875f4", func := "lineside/linesidelaw05.PacketGets", spec := "packetGets", unfollowed := true, recurses := true, named := ["lineside/vars.widths"], apart := false, laid := [("lineside/vars.widths", laid_lineside_vars_widths)] }
def PacketGetsSaid : Prop := packetGetsRow.holds Tryd.pinned (OpenSpec.ofChange packetGetsSpec)

/-- ITS FALSE NEIGHBOUR: 'it returns false'. Refute it at one input. -/
def packetGetsWrong : ChangeSpec := { name := "packetGets", fn := fun _ => fun
  | [d1, d2] => { results := [.lit (.bool false)], args := [d1, d2] }
  | _ => none }
def PacketGetsWrongFalsely : Prop := packetGetsRow.holds Tryd.pinned (OpenSpec.ofChange packetGetsWrong)

/-- 'linesidelaw05.PacketBack': WHATEVER THE INPUT: true; the input reads as it did. -/
def packetBackSpec : ChangeSpec := { name := "packetBack", fn := fun _ => fun
  | [d1, d2, d3] => { results := [.lit (.bool true)], args := [d1, d2, d3] }
  | _ => none }
def packetBackRow : OpenClaim := { program := "ytccmickemglmaaadoor", sum := "964a00c3d8321cf7ff4870c70c735a335cc42949ce34891f853c5e3638f875f4", func := "lineside/linesidelaw05.PacketBack", spec := "packetBack", unfollowed := true, recurses := true, named := ["lineside/vars.widths"], apart := false, laid := [("lineside/vars.widths", laid_lineside_vars_widths)] }
def PacketBackSaid : Prop := packetBackRow.holds Tryd.pinned (OpenSpec.ofChange packetBackSpec)

/-- ITS FALSE NEIGHBOUR: 'it returns false'. Refute it at one input. -/
def packetBackWrong : ChangeSpec := { name := "packetBack", fn := fun _ => fun
  | [d1, d2, d3] => { results := [.lit (.bool false)], args := [d1, d2, d3] }
  | _ => none }
def PacketBackWrongFalsely : Prop := packetBackRow.holds Tryd.pinned (OpenSpec.ofChange packetBackWrong)

/-- 'linesidelaw05.PacketOnly': WHATEVER THE INPUT: true; the input reads as it did. -/
def packetOnlySpec : ChangeSpec := { name := "packetOnly", fn := fun _ => fun
  | [d1, d2] => { results := [.lit (.bool true)], args := [d1, d2] }
  | _ => none }
def packetOnlyRow : OpenClaim := { program := "ytccmickemglmaaadoor", sum := "964a00c3d8321cf7ff4870c70c735a335cc42949ce34891f853c5e3638f875f4", func := "lineside/linesidelaw05.PacketOnly", spec := "packetOnly", unfollowed := true, recurses := true, named := ["lineside/vars.widths"], apart := false, laid := [("lineside/vars.widths", laid_lineside_vars_widths)] }
def PacketOnlySaid : Prop := packetOnlyRow.holds Tryd.pinned (OpenSpec.ofChange packetOnlySpec)

/-- ITS FALSE NEIGHBOUR: 'it returns false'. Refute it at one input. -/
def packetOnlyWrong : ChangeSpec := { name := "packetOnly", fn := fun _ => fun
  | [d1, d2] => { results := [.lit (.bool false)], args := [d1, d2] }
  | _ => none }
def PacketOnlyWrongFalsely : Prop := packetOnlyRow.holds Tryd.pinned (OpenSpec.ofChange packetOnlyWrong)

/-- 'linesidelaw05.PacketCut': WHATEVER THE INPUT: true; the input reads as it did. -/
def packetCutSpec : ChangeSpec := { name := "packetCut", fn := fun _ => fun
  | [d1, d2] => { results := [.lit (.bool true)], args := [d1, d2] }
  | _ => none }
def packetCutRow : OpenClaim := { program := "ytccmickemglmaaadoor", sum := "964a00c3d8321cf7ff4870c70c735a335cc42949ce34891f853c5e3638f875f4", func := "lineside/linesidelaw05.PacketCut", spec := "packetCut", unfollowed := true, recurses := true, named := ["lineside/vars.widths"], apart := false, laid := [("lineside/vars.widths", laid_lineside_vars_widths)] }
def PacketCutSaid : Prop := packetCutRow.holds Tryd.pinned (OpenSpec.ofChange packetCutSpec)

/-- ITS FALSE NEIGHBOUR: 'it returns false'. Refute it at one input. -/
def packetCutWrong : ChangeSpec := { name := "packetCut", fn := fun _ => fun
  | [d1, d2] => { results := [.lit (.bool false)], args := [d1, d2] }
  | _ => none }
def PacketCutWrongFalsely : Prop := packetCutRow.holds Tryd.pinned (OpenSpec.ofChange packetCutWrong)

/-- 'linesidelaw05.PacketOne': WHATEVER THE INPUT: true; the input reads as it did. -/
def packetOneSpec : ChangeSpec := { name := "packetOne", fn := fun _ => fun
  | [d1, d2, d3] => { results := [.lit (.bool true)], args := [d1, d2, d3] }
  | _ => none }
def packetOneRow : OpenClaim := { program := "ytccmickemglmaaadoor", sum := "964a00c3d8321cf7ff4870c70c735a335cc42949ce34891f853c5e3638f875f4", func := "lineside/linesidelaw05.PacketOne", spec := "packetOne", unfollowed := true, recurses := true, named := ["lineside/vars.widths"], apart := false, laid := [("lineside/vars.widths", laid_lineside_vars_widths)] }
def PacketOneSaid : Prop := packetOneRow.holds Tryd.pinned (OpenSpec.ofChange packetOneSpec)

/-- ITS FALSE NEIGHBOUR: 'it returns false'. Refute it at one input. -/
def packetOneWrong : ChangeSpec := { name := "packetOne", fn := fun _ => fun
  | [d1, d2, d3] => { results := [.lit (.bool false)], args := [d1, d2, d3] }
  | _ => none }
def PacketOneWrongFalsely : Prop := packetOneRow.holds Tryd.pinned (OpenSpec.ofChange packetOneWrong)

/- THE SECOND FORM. 'bulk': how many values and letters a reading holds, each counted each time it is reached (what is shared counts as often as it is met; a slice's spare places count too). A statement '..UptoSaid' is the law's where the arguments, and the package variables that the reading takes, are together of bulk at most 1048576: NARROWER than '..Said'. Prove '..Said' where nothing that the law and all that it calls make is longer than what came in: it says more and counts as full. Else prove '..UptoSaid'. A law counts once. -/
mutual
def uptoBulk {H : Type} : DataW H → Nat
  | .lit (.string bytes) => bytes.length + 1
  | .lit _ => 1
  | .nil => 1
  | .ptr d => uptoBulk d + 1
  | .slice elems spare => uptoBulkAll elems + uptoBulkAll spare + 1
  | .agg parts => uptoBulkAll parts + 1
  | .iface _ d => uptoBulk d + 1
  | .map entries => uptoBulkEntries entries + 1
  | .held _ => 1
def uptoBulkAll {H : Type} : List (DataW H) → Nat
  | [] => 0
  | d :: r => uptoBulk d + uptoBulkAll r
def uptoBulkEntries {H : Type} : List (Lit × DataW H) → Nat
  | [] => 0
  | x :: r => uptoBulkEntry x + uptoBulkEntries r
def uptoBulkEntry {H : Type} : Lit × DataW H → Nat
  | (.string bytes, d) => bytes.length + uptoBulk d + 1
  | (_, d) => uptoBulk d + 1
 end
def uptoSmall : (H : Type) → List (DataW H) → Bool := fun _ ds => decide (uptoBulkAll ds ≤ 1048576)
def OpenSpec.upto (s : _root_.Go.ChangeSpec) : _root_.Go.OpenSpec := { _root_.Go.OpenSpec.ofChange s with cond := some uptoSmall }

/-- 'linesidelaw05.PacketItems', WHERE WHAT IT READS IS OF BULK AT MOST 1048576: true; the input reads as it did. -/
def packetItemsUptoRow : OpenClaim := { program := "ytccmickemglmaaadoor", sum := "964a00c3d8321cf7ff4870c70c735a335cc42949ce34891f853c5e3638f875f4", func := "lineside/linesidelaw05.PacketItems", spec := "packetItems", unfollowed := true, recurses := true, named := ["lineside/vars.widths"], apart := false, laid := [("lineside/vars.widths", laid_lineside_vars_widths)], narrowed := true }
def PacketItemsUptoSaid : Prop := packetItemsUptoRow.holds Tryd.pinned (OpenSpec.upto packetItemsSpec)

/-- 'linesidelaw05.PacketGets', WHERE WHAT IT READS IS OF BULK AT MOST 1048576: true; the input reads as it did. -/
def packetGetsUptoRow : OpenClaim := { program := "ytccmickemglmaaadoor", sum := "964a00c3d8321cf7ff4870c70c735a335cc42949ce34891f853c5e3638f875f4", func := "lineside/linesidelaw05.PacketGets", spec := "packetGets", unfollowed := true, recurses := true, named := ["lineside/vars.widths"], apart := false, laid := [("lineside/vars.widths", laid_lineside_vars_widths)], narrowed := true }
def PacketGetsUptoSaid : Prop := packetGetsUptoRow.holds Tryd.pinned (OpenSpec.upto packetGetsSpec)

/-- 'linesidelaw05.PacketBack', WHERE WHAT IT READS IS OF BULK AT MOST 1048576: true; the input reads as it did. -/
def packetBackUptoRow : OpenClaim := { program := "ytccmickemglmaaadoor", sum := "964a00c3d8321cf7ff4870c70c735a335cc42949ce34891f853c5e3638f875f4", func := "lineside/linesidelaw05.PacketBack", spec := "packetBack", unfollowed := true, recurses := true, named := ["lineside/vars.widths"], apart := false, laid := [("lineside/vars.widths", laid_lineside_vars_widths)], narrowed := true }
def PacketBackUptoSaid : Prop := packetBackUptoRow.holds Tryd.pinned (OpenSpec.upto packetBackSpec)

/-- 'linesidelaw05.PacketOnly', WHERE WHAT IT READS IS OF BULK AT MOST 1048576: true; the input reads as it did. -/
def packetOnlyUptoRow : OpenClaim := { program := "ytccmickemglmaaadoor", sum := "964a00c3d8321cf7ff4870c70c735a335cc42949ce34891f853c5e3638f875f4", func := "lineside/linesidelaw05.PacketOnly", spec := "packetOnly", unfollowed := true, recurses := true, named := ["lineside/vars.widths"], apart := false, laid := [("lineside/vars.widths", laid_lineside_vars_widths)], narrowed := true }
def PacketOnlyUptoSaid : Prop := packetOnlyUptoRow.holds Tryd.pinned (OpenSpec.upto packetOnlySpec)

/-- 'linesidelaw05.PacketCut', WHERE WHAT IT READS IS OF BULK AT MOST 1048576: true; the input reads as it did. -/
def packetCutUptoRow : OpenClaim := { program := "ytccmickemglmaaadoor", sum := "964a00c3d8321cf7ff4870c70c735a335cc42949ce34891f853c5e3638f875f4", func := "lineside/linesidelaw05.PacketCut", spec := "packetCut", unfollowed := true, recurses := true, named := ["lineside/vars.widths"], apart := false, laid := [("lineside/vars.widths", laid_lineside_vars_widths)], narrowed := true }
def PacketCutUptoSaid : Prop := packetCutUptoRow.holds Tryd.pinned (OpenSpec.upto packetCutSpec)

/-- 'linesidelaw05.PacketOne', WHERE WHAT IT READS IS OF BULK AT MOST 1048576: true; the input reads as it did. -/
def packetOneUptoRow : OpenClaim := { program := "ytccmickemglmaaadoor", sum := "964a00c3d8321cf7ff4870c70c735a335cc42949ce34891f853c5e3638f875f4", func := "lineside/linesidelaw05.PacketOne", spec := "packetOne", unfollowed := true, recurses := true, named := ["lineside/vars.widths"], apart := false, laid := [("lineside/vars.widths", laid_lineside_vars_widths)], narrowed := true }
def PacketOneUptoSaid : Prop := packetOneUptoRow.holds Tryd.pinned (OpenSpec.upto packetOneSpec)

end Rows
end Go.Proofs.YtccmickemglmaaaDoor
