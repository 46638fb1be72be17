/-
  DERIVED. GIVEN WITH THE SEED: THE CARDS: each row of YtccmickemglmaaaDoorRows.lean that lists a variable, with what it lists TIED to the program's text (the seventh form; the later family's looks); each row that meets fmt, with fmt's text TOLD by the authors' own Lean function (tested against real Go, not proved from fmt's source: count such statements apart). THE CARD IS WHAT COUNTS. Prove the row's statement (the work); the ties are given (YtccmickemglmaaaDoorTie.lean); close each card by the builder's one call (the guide's Derived/Test/ToyasCard.lean, 'card_holds'). Laid BY PROGRAM, IN A SANDBOX (cutbox-door.mjs). By AI agents, Wed Nov 11 2026. No macro, syntax, notation, axiom, sorry.
-/
import Derived.Test.YtccmickemglmaaaDoorRows
import GoSem.ClaimSeven
namespace Go.Proofs.YtccmickemglmaaaDoor
namespace Rows

/-- THE TIED CARD OF 'linesidelaw05.PacketItems'. -/
def packetItemsCard : Claim7 := { stood := { row := packetItemsRow, standIns := [], harness := (true, "80016353b7d83c51db00cf23f1fe8b83fc2f0ec123c812c2338e9d1ef06af4d4"), looks := true }, kinds := [], alts := [], laidByText := true, laidKinds := [.data], laidTests := true, laidLooks := .later }
def PacketItemsCardSaid : Prop := Claim7.holds Tryd.pinned (.plain (OpenSpec.ofChange packetItemsSpec)) packetItemsCard

/-- THE TIED CARD OF 'linesidelaw05.PacketGets'. -/
def packetGetsCard : Claim7 := { stood := { row := packetGetsRow, standIns := [], harness := (true, "80016353b7d83c51db00cf23f1fe8b83fc2f0ec123c812c2338e9d1ef06af4d4"), looks := true }, kinds := [], alts := [], laidByText := true, laidKinds := [.data], laidTests := true, laidLooks := .later }
def PacketGetsCardSaid : Prop := Claim7.holds Tryd.pinned (.plain (OpenSpec.ofChange packetGetsSpec)) packetGetsCard

/-- THE TIED CARD OF 'linesidelaw05.PacketBack'. -/
def packetBackCard : Claim7 := { stood := { row := packetBackRow, standIns := [], harness := (true, "80016353b7d83c51db00cf23f1fe8b83fc2f0ec123c812c2338e9d1ef06af4d4"), looks := true }, kinds := [], alts := [], laidByText := true, laidKinds := [.data], laidTests := true, laidLooks := .later }
def PacketBackCardSaid : Prop := Claim7.holds Tryd.pinned (.plain (OpenSpec.ofChange packetBackSpec)) packetBackCard

/-- THE TIED CARD OF 'linesidelaw05.PacketOnly'. -/
def packetOnlyCard : Claim7 := { stood := { row := packetOnlyRow, standIns := [], harness := (true, "80016353b7d83c51db00cf23f1fe8b83fc2f0ec123c812c2338e9d1ef06af4d4"), looks := true }, kinds := [], alts := [], laidByText := true, laidKinds := [.data], laidTests := true, laidLooks := .later }
def PacketOnlyCardSaid : Prop := Claim7.holds Tryd.pinned (.plain (OpenSpec.ofChange packetOnlySpec)) packetOnlyCard

/-- THE TIED CARD OF 'linesidelaw05.PacketCut'. -/
def packetCutCard : Claim7 := { stood := { row := packetCutRow, standIns := [], harness := (true, "80016353b7d83c51db00cf23f1fe8b83fc2f0ec123c812c2338e9d1ef06af4d4"), looks := true }, kinds := [], alts := [], laidByText := true, laidKinds := [.data], laidTests := true, laidLooks := .later }
def PacketCutCardSaid : Prop := Claim7.holds Tryd.pinned (.plain (OpenSpec.ofChange packetCutSpec)) packetCutCard

/-- THE TIED CARD OF 'linesidelaw05.PacketOne'. -/
def packetOneCard : Claim7 := { stood := { row := packetOneRow, standIns := [], harness := (true, "80016353b7d83c51db00cf23f1fe8b83fc2f0ec123c812c2338e9d1ef06af4d4"), looks := true }, kinds := [], alts := [], laidByText := true, laidKinds := [.data], laidTests := true, laidLooks := .later }
def PacketOneCardSaid : Prop := Claim7.holds Tryd.pinned (.plain (OpenSpec.ofChange packetOneSpec)) packetOneCard

/-- THE SECOND FORM's CARD OF 'linesidelaw05.PacketItems'. -/
def packetItemsUptoCard : Claim7 := { stood := { row := packetItemsUptoRow, standIns := [], harness := (true, "80016353b7d83c51db00cf23f1fe8b83fc2f0ec123c812c2338e9d1ef06af4d4"), looks := true }, kinds := [], alts := [], laidByText := true, laidKinds := [.data], laidTests := true, laidLooks := .later }
def PacketItemsUptoCardSaid : Prop := Claim7.holds Tryd.pinned (.plain (OpenSpec.upto packetItemsSpec)) packetItemsUptoCard

/-- THE SECOND FORM's CARD OF 'linesidelaw05.PacketGets'. -/
def packetGetsUptoCard : Claim7 := { stood := { row := packetGetsUptoRow, standIns := [], harness := (true, "80016353b7d83c51db00cf23f1fe8b83fc2f0ec123c812c2338e9d1ef06af4d4"), looks := true }, kinds := [], alts := [], laidByText := true, laidKinds := [.data], laidTests := true, laidLooks := .later }
def PacketGetsUptoCardSaid : Prop := Claim7.holds Tryd.pinned (.plain (OpenSpec.upto packetGetsSpec)) packetGetsUptoCard

/-- THE SECOND FORM's CARD OF 'linesidelaw05.PacketBack'. -/
def packetBackUptoCard : Claim7 := { stood := { row := packetBackUptoRow, standIns := [], harness := (true, "80016353b7d83c51db00cf23f1fe8b83fc2f0ec123c812c2338e9d1ef06af4d4"), looks := true }, kinds := [], alts := [], laidByText := true, laidKinds := [.data], laidTests := true, laidLooks := .later }
def PacketBackUptoCardSaid : Prop := Claim7.holds Tryd.pinned (.plain (OpenSpec.upto packetBackSpec)) packetBackUptoCard

/-- THE SECOND FORM's CARD OF 'linesidelaw05.PacketOnly'. -/
def packetOnlyUptoCard : Claim7 := { stood := { row := packetOnlyUptoRow, standIns := [], harness := (true, "80016353b7d83c51db00cf23f1fe8b83fc2f0ec123c812c2338e9d1ef06af4d4"), looks := true }, kinds := [], alts := [], laidByText := true, laidKinds := [.data], laidTests := true, laidLooks := .later }
def PacketOnlyUptoCardSaid : Prop := Claim7.holds Tryd.pinned (.plain (OpenSpec.upto packetOnlySpec)) packetOnlyUptoCard

/-- THE SECOND FORM's CARD OF 'linesidelaw05.PacketCut'. -/
def packetCutUptoCard : Claim7 := { stood := { row := packetCutUptoRow, standIns := [], harness := (true, "80016353b7d83c51db00cf23f1fe8b83fc2f0ec123c812c2338e9d1ef06af4d4"), looks := true }, kinds := [], alts := [], laidByText := true, laidKinds := [.data], laidTests := true, laidLooks := .later }
def PacketCutUptoCardSaid : Prop := Claim7.holds Tryd.pinned (.plain (OpenSpec.upto packetCutSpec)) packetCutUptoCard

/-- THE SECOND FORM's CARD OF 'linesidelaw05.PacketOne'. -/
def packetOneUptoCard : Claim7 := { stood := { row := packetOneUptoRow, standIns := [], harness := (true, "80016353b7d83c51db00cf23f1fe8b83fc2f0ec123c812c2338e9d1ef06af4d4"), looks := true }, kinds := [], alts := [], laidByText := true, laidKinds := [.data], laidTests := true, laidLooks := .later }
def PacketOneUptoCardSaid : Prop := Claim7.holds Tryd.pinned (.plain (OpenSpec.upto packetOneSpec)) packetOneUptoCard
end Rows
end Go.Proofs.YtccmickemglmaaaDoor
