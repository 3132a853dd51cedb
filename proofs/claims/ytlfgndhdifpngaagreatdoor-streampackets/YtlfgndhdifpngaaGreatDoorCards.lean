/-
  DERIVED. GIVEN WITH THE SEED: THE CARDS: each row of YtlfgndhdifpngaaGreatDoorRows.lean that lists a variable, with what it lists TIED to the program's text (the seventh form; the later family's looks); each row that meets fmt, with fmt's text TOLD by the authors' own Lean function (tested against real Go, not proved from fmt's source: count such statements apart). THE CARD IS WHAT COUNTS. Prove the row's statement (the work); the ties are given (YtlfgndhdifpngaaGreatDoorTie.lean); close each card by the builder's one call (the guide's Derived/Test/ToyasCard.lean, 'card_holds'). Laid BY PROGRAM, IN A SANDBOX (cutbox-door.mjs). By AI agents, Wed Nov 11 2026. No macro, syntax, notation, axiom, sorry.
-/
import Derived.Test.YtlfgndhdifpngaaGreatDoorRows
import GoSem.ClaimSeven
namespace Go.Proofs.YtlfgndhdifpngaaGreatDoor
namespace Rows

/-- THE TIED CARD OF 'aqueductlaw05.PacketGets'. -/
def packetGetsCard : Claim7 := { stood := { row := packetGetsRow, standIns := [], harness := (true, "2465b9d13fd15d2d4f7042fbb82193a7c9994910d2dc48383af900b361558d7a"), looks := true }, kinds := [], alts := [], laidByText := true, laidKinds := [.data, .pinned], laidTests := true, laidLooks := .later }
def PacketGetsCardSaid : Prop := Claim7.holds Tryz.pinned (.plain (OpenSpec.ofChange packetGetsSpec)) packetGetsCard

/-- THE TIED CARD OF 'aqueductlaw06.StreamFeeds'. -/
def streamFeedsCard : Claim7 := { stood := { row := streamFeedsRow, standIns := [], harness := (true, "2465b9d13fd15d2d4f7042fbb82193a7c9994910d2dc48383af900b361558d7a"), looks := true }, kinds := [], alts := [], laidByText := true, laidKinds := [.data, .pinned], laidTests := true, laidLooks := .later }
def StreamFeedsCardSaid : Prop := Claim7.holds Tryz.pinned (.plain (OpenSpec.ofChange streamFeedsSpec)) streamFeedsCard

/-- THE TIED CARD OF 'aqueductlaw06.StreamPackets'. -/
def streamPacketsCard : Claim7 := { stood := { row := streamPacketsRow, standIns := [], harness := (true, "2465b9d13fd15d2d4f7042fbb82193a7c9994910d2dc48383af900b361558d7a"), looks := true }, kinds := [], alts := [], laidByText := true, laidKinds := [.data, .pinned], laidTests := true, laidLooks := .later }
def StreamPacketsCardSaid : Prop := Claim7.holds Tryz.pinned (.plain (OpenSpec.ofChange streamPacketsSpec)) streamPacketsCard

/-- THE TIED CARD OF 'aqueducttop.TopWire'. -/
def topWireCard : Claim7 := { stood := { row := topWireRow, standIns := [], harness := (true, "2465b9d13fd15d2d4f7042fbb82193a7c9994910d2dc48383af900b361558d7a"), looks := true }, kinds := [], alts := [], laidByText := true, laidKinds := [.data, .pinned], laidTests := true, laidLooks := .later }
def TopWireCardSaid : Prop := Claim7.holds Tryz.pinned (.plain (OpenSpec.ofChange topWireSpec)) topWireCard

/-- THE SECOND FORM's CARD OF 'aqueductlaw05.PacketGets'. -/
def packetGetsUptoCard : Claim7 := { stood := { row := packetGetsUptoRow, standIns := [], harness := (true, "2465b9d13fd15d2d4f7042fbb82193a7c9994910d2dc48383af900b361558d7a"), looks := true }, kinds := [], alts := [], laidByText := true, laidKinds := [.data, .pinned], laidTests := true, laidLooks := .later }
def PacketGetsUptoCardSaid : Prop := Claim7.holds Tryz.pinned (.plain (OpenSpec.upto packetGetsSpec)) packetGetsUptoCard

/-- THE SECOND FORM's CARD OF 'aqueductlaw06.StreamFeeds'. -/
def streamFeedsUptoCard : Claim7 := { stood := { row := streamFeedsUptoRow, standIns := [], harness := (true, "2465b9d13fd15d2d4f7042fbb82193a7c9994910d2dc48383af900b361558d7a"), looks := true }, kinds := [], alts := [], laidByText := true, laidKinds := [.data, .pinned], laidTests := true, laidLooks := .later }
def StreamFeedsUptoCardSaid : Prop := Claim7.holds Tryz.pinned (.plain (OpenSpec.upto streamFeedsSpec)) streamFeedsUptoCard

/-- THE SECOND FORM's CARD OF 'aqueductlaw06.StreamPackets'. -/
def streamPacketsUptoCard : Claim7 := { stood := { row := streamPacketsUptoRow, standIns := [], harness := (true, "2465b9d13fd15d2d4f7042fbb82193a7c9994910d2dc48383af900b361558d7a"), looks := true }, kinds := [], alts := [], laidByText := true, laidKinds := [.data, .pinned], laidTests := true, laidLooks := .later }
def StreamPacketsUptoCardSaid : Prop := Claim7.holds Tryz.pinned (.plain (OpenSpec.upto streamPacketsSpec)) streamPacketsUptoCard

/-- THE SECOND FORM's CARD OF 'aqueducttop.TopWire'. -/
def topWireUptoCard : Claim7 := { stood := { row := topWireUptoRow, standIns := [], harness := (true, "2465b9d13fd15d2d4f7042fbb82193a7c9994910d2dc48383af900b361558d7a"), looks := true }, kinds := [], alts := [], laidByText := true, laidKinds := [.data, .pinned], laidTests := true, laidLooks := .later }
def TopWireUptoCardSaid : Prop := Claim7.holds Tryz.pinned (.plain (OpenSpec.upto topWireSpec)) topWireUptoCard
end Rows
end Go.Proofs.YtlfgndhdifpngaaGreatDoor
