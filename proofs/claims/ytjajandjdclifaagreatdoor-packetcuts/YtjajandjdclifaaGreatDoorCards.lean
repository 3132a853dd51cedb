/-
  DERIVED. GIVEN WITH THE SEED: THE CARDS: each row of YtjajandjdclifaaGreatDoorRows.lean that lists a variable, with what it lists TIED to the program's text (the seventh form; the later family's looks); each row that meets fmt, with fmt's text TOLD by the authors' own Lean function (tested against real Go, not proved from fmt's source: count such statements apart). THE CARD IS WHAT COUNTS. Prove the row's statement (the work); the ties are given (YtjajandjdclifaaGreatDoorTie.lean); close each card by the builder's one call (the guide's Derived/Test/ToyasCard.lean, 'card_holds'). Laid BY PROGRAM, IN A SANDBOX (cutbox-door.mjs). By AI agents, Wed Nov 11 2026. No macro, syntax, notation, axiom, sorry.
-/
import Derived.Test.YtjajandjdclifaaGreatDoorRows
import GoSem.ClaimSeven
namespace Go.Proofs.YtjajandjdclifaaGreatDoor
namespace Rows

/-- THE TIED CARD OF 'aqueductlaw05.PacketGets'. -/
def packetGetsCard : Claim7 := { stood := { row := packetGetsRow, standIns := [], harness := (true, "21429ca2930db6b13fbcb919471ce5480ad9d9c36500bdb15117964031367f50"), looks := true }, kinds := [], alts := [], laidByText := true, laidKinds := [.data, .pinned], laidTests := true, laidLooks := .later }
def PacketGetsCardSaid : Prop := Claim7.holds Tryz.pinned (.plain (OpenSpec.ofChange packetGetsSpec)) packetGetsCard

/-- THE TIED CARD OF 'aqueductlaw05.PacketBack'. -/
def packetBackCard : Claim7 := { stood := { row := packetBackRow, standIns := [], harness := (true, "21429ca2930db6b13fbcb919471ce5480ad9d9c36500bdb15117964031367f50"), looks := true }, kinds := [], alts := [], laidByText := true, laidKinds := [.data, .pinned], laidTests := true, laidLooks := .later }
def PacketBackCardSaid : Prop := Claim7.holds Tryz.pinned (.plain (OpenSpec.ofChange packetBackSpec)) packetBackCard

/-- THE TIED CARD OF 'aqueductlaw05.PacketTwice'. -/
def packetTwiceCard : Claim7 := { stood := { row := packetTwiceRow, standIns := [], harness := (true, "21429ca2930db6b13fbcb919471ce5480ad9d9c36500bdb15117964031367f50"), looks := true }, kinds := [], alts := [], laidByText := true, laidKinds := [.data, .pinned], laidTests := true, laidLooks := .later }
def PacketTwiceCardSaid : Prop := Claim7.holds Tryz.pinned (.plain (OpenSpec.ofChange packetTwiceSpec)) packetTwiceCard

/-- THE TIED CARD OF 'aqueductlaw05.PacketCuts'. -/
def packetCutsCard : Claim7 := { stood := { row := packetCutsRow, standIns := [], harness := (true, "21429ca2930db6b13fbcb919471ce5480ad9d9c36500bdb15117964031367f50"), looks := true }, kinds := [], alts := [], laidByText := true, laidKinds := [.data, .pinned], laidTests := true, laidLooks := .later }
def PacketCutsCardSaid : Prop := Claim7.holds Tryz.pinned (.plain (OpenSpec.ofChange packetCutsSpec)) packetCutsCard

/-- THE TIED CARD OF 'aqueductlaw05.PacketFlags'. -/
def packetFlagsCard : Claim7 := { stood := { row := packetFlagsRow, standIns := [], harness := (true, "21429ca2930db6b13fbcb919471ce5480ad9d9c36500bdb15117964031367f50"), looks := true }, kinds := [], alts := [], laidByText := true, laidKinds := [.data, .pinned], laidTests := true, laidLooks := .later }
def PacketFlagsCardSaid : Prop := Claim7.holds Tryz.pinned (.plain (OpenSpec.ofChange packetFlagsSpec)) packetFlagsCard

/-- THE TIED CARD OF 'aqueductlaw06.StreamFeeds'. -/
def streamFeedsCard : Claim7 := { stood := { row := streamFeedsRow, standIns := [], harness := (true, "21429ca2930db6b13fbcb919471ce5480ad9d9c36500bdb15117964031367f50"), looks := true }, kinds := [], alts := [], laidByText := true, laidKinds := [.data, .pinned], laidTests := true, laidLooks := .later }
def StreamFeedsCardSaid : Prop := Claim7.holds Tryz.pinned (.plain (OpenSpec.ofChange streamFeedsSpec)) streamFeedsCard

/-- THE TIED CARD OF 'aqueductlaw06.StreamPieces'. -/
def streamPiecesCard : Claim7 := { stood := { row := streamPiecesRow, standIns := [], harness := (true, "21429ca2930db6b13fbcb919471ce5480ad9d9c36500bdb15117964031367f50"), looks := true }, kinds := [], alts := [], laidByText := true, laidKinds := [.data, .pinned], laidTests := true, laidLooks := .later }
def StreamPiecesCardSaid : Prop := Claim7.holds Tryz.pinned (.plain (OpenSpec.ofChange streamPiecesSpec)) streamPiecesCard

/-- THE TIED CARD OF 'aqueductlaw06.StreamPackets'. -/
def streamPacketsCard : Claim7 := { stood := { row := streamPacketsRow, standIns := [], harness := (true, "21429ca2930db6b13fbcb919471ce5480ad9d9c36500bdb15117964031367f50"), looks := true }, kinds := [], alts := [], laidByText := true, laidKinds := [.data, .pinned], laidTests := true, laidLooks := .later }
def StreamPacketsCardSaid : Prop := Claim7.holds Tryz.pinned (.plain (OpenSpec.ofChange streamPacketsSpec)) streamPacketsCard

/-- THE TIED CARD OF 'aqueducttop.TopWire'. -/
def topWireCard : Claim7 := { stood := { row := topWireRow, standIns := [], harness := (true, "21429ca2930db6b13fbcb919471ce5480ad9d9c36500bdb15117964031367f50"), looks := true }, kinds := [], alts := [], laidByText := true, laidKinds := [.data, .pinned], laidTests := true, laidLooks := .later }
def TopWireCardSaid : Prop := Claim7.holds Tryz.pinned (.plain (OpenSpec.ofChange topWireSpec)) topWireCard

/-- THE SECOND FORM's CARD OF 'aqueductlaw05.PacketGets'. -/
def packetGetsUptoCard : Claim7 := { stood := { row := packetGetsUptoRow, standIns := [], harness := (true, "21429ca2930db6b13fbcb919471ce5480ad9d9c36500bdb15117964031367f50"), looks := true }, kinds := [], alts := [], laidByText := true, laidKinds := [.data, .pinned], laidTests := true, laidLooks := .later }
def PacketGetsUptoCardSaid : Prop := Claim7.holds Tryz.pinned (.plain (OpenSpec.upto packetGetsSpec)) packetGetsUptoCard

/-- THE SECOND FORM's CARD OF 'aqueductlaw05.PacketBack'. -/
def packetBackUptoCard : Claim7 := { stood := { row := packetBackUptoRow, standIns := [], harness := (true, "21429ca2930db6b13fbcb919471ce5480ad9d9c36500bdb15117964031367f50"), looks := true }, kinds := [], alts := [], laidByText := true, laidKinds := [.data, .pinned], laidTests := true, laidLooks := .later }
def PacketBackUptoCardSaid : Prop := Claim7.holds Tryz.pinned (.plain (OpenSpec.upto packetBackSpec)) packetBackUptoCard

/-- THE SECOND FORM's CARD OF 'aqueductlaw05.PacketTwice'. -/
def packetTwiceUptoCard : Claim7 := { stood := { row := packetTwiceUptoRow, standIns := [], harness := (true, "21429ca2930db6b13fbcb919471ce5480ad9d9c36500bdb15117964031367f50"), looks := true }, kinds := [], alts := [], laidByText := true, laidKinds := [.data, .pinned], laidTests := true, laidLooks := .later }
def PacketTwiceUptoCardSaid : Prop := Claim7.holds Tryz.pinned (.plain (OpenSpec.upto packetTwiceSpec)) packetTwiceUptoCard

/-- THE SECOND FORM's CARD OF 'aqueductlaw05.PacketCuts'. -/
def packetCutsUptoCard : Claim7 := { stood := { row := packetCutsUptoRow, standIns := [], harness := (true, "21429ca2930db6b13fbcb919471ce5480ad9d9c36500bdb15117964031367f50"), looks := true }, kinds := [], alts := [], laidByText := true, laidKinds := [.data, .pinned], laidTests := true, laidLooks := .later }
def PacketCutsUptoCardSaid : Prop := Claim7.holds Tryz.pinned (.plain (OpenSpec.upto packetCutsSpec)) packetCutsUptoCard

/-- THE SECOND FORM's CARD OF 'aqueductlaw05.PacketFlags'. -/
def packetFlagsUptoCard : Claim7 := { stood := { row := packetFlagsUptoRow, standIns := [], harness := (true, "21429ca2930db6b13fbcb919471ce5480ad9d9c36500bdb15117964031367f50"), looks := true }, kinds := [], alts := [], laidByText := true, laidKinds := [.data, .pinned], laidTests := true, laidLooks := .later }
def PacketFlagsUptoCardSaid : Prop := Claim7.holds Tryz.pinned (.plain (OpenSpec.upto packetFlagsSpec)) packetFlagsUptoCard

/-- THE SECOND FORM's CARD OF 'aqueductlaw06.StreamFeeds'. -/
def streamFeedsUptoCard : Claim7 := { stood := { row := streamFeedsUptoRow, standIns := [], harness := (true, "21429ca2930db6b13fbcb919471ce5480ad9d9c36500bdb15117964031367f50"), looks := true }, kinds := [], alts := [], laidByText := true, laidKinds := [.data, .pinned], laidTests := true, laidLooks := .later }
def StreamFeedsUptoCardSaid : Prop := Claim7.holds Tryz.pinned (.plain (OpenSpec.upto streamFeedsSpec)) streamFeedsUptoCard

/-- THE SECOND FORM's CARD OF 'aqueductlaw06.StreamPieces'. -/
def streamPiecesUptoCard : Claim7 := { stood := { row := streamPiecesUptoRow, standIns := [], harness := (true, "21429ca2930db6b13fbcb919471ce5480ad9d9c36500bdb15117964031367f50"), looks := true }, kinds := [], alts := [], laidByText := true, laidKinds := [.data, .pinned], laidTests := true, laidLooks := .later }
def StreamPiecesUptoCardSaid : Prop := Claim7.holds Tryz.pinned (.plain (OpenSpec.upto streamPiecesSpec)) streamPiecesUptoCard

/-- THE SECOND FORM's CARD OF 'aqueductlaw06.StreamPackets'. -/
def streamPacketsUptoCard : Claim7 := { stood := { row := streamPacketsUptoRow, standIns := [], harness := (true, "21429ca2930db6b13fbcb919471ce5480ad9d9c36500bdb15117964031367f50"), looks := true }, kinds := [], alts := [], laidByText := true, laidKinds := [.data, .pinned], laidTests := true, laidLooks := .later }
def StreamPacketsUptoCardSaid : Prop := Claim7.holds Tryz.pinned (.plain (OpenSpec.upto streamPacketsSpec)) streamPacketsUptoCard

/-- THE SECOND FORM's CARD OF 'aqueducttop.TopWire'. -/
def topWireUptoCard : Claim7 := { stood := { row := topWireUptoRow, standIns := [], harness := (true, "21429ca2930db6b13fbcb919471ce5480ad9d9c36500bdb15117964031367f50"), looks := true }, kinds := [], alts := [], laidByText := true, laidKinds := [.data, .pinned], laidTests := true, laidLooks := .later }
def TopWireUptoCardSaid : Prop := Claim7.holds Tryz.pinned (.plain (OpenSpec.upto topWireSpec)) topWireUptoCard
end Rows
end Go.Proofs.YtjajandjdclifaaGreatDoor
