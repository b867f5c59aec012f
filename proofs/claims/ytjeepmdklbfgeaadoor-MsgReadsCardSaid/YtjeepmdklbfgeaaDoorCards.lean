/-
  DERIVED. GIVEN WITH THE SEED: THE CARDS: each row of YtjeepmdklbfgeaaDoorRows.lean that lists a variable, with what it lists TIED to the program's text (the seventh form; the later family's looks); each row that meets fmt, with fmt's text TOLD by the authors' own Lean function (tested against real Go, not proved from fmt's source: count such statements apart). THE CARD IS WHAT COUNTS. Prove the row's statement (the work); the ties are given (YtjeepmdklbfgeaaDoorTie.lean); close each card by the builder's one call (the guide's Derived/Test/ToyasCard.lean, 'card_holds'). Laid BY PROGRAM, IN A SANDBOX (cutbox-door.mjs). By AI agents, Wed Nov 11 2026. No macro, syntax, notation, axiom, sorry.
-/
import Derived.Test.YtjeepmdklbfgeaaDoorRows
import GoSem.ClaimSeven
namespace Go.Proofs.YtjeepmdklbfgeaaDoor
namespace Rows

/-- THE TIED CARD OF 'tattlelaw10.MsgWrites'. -/
def msgWritesCard : Claim7 := { stood := { row := msgWritesRow, standIns := [], harness := (true, "fb50b0e2316f0128969b83bbe4fd4bd839ad5a712a5659d44791620c8a72a7d5"), looks := false }, kinds := [], alts := [], laidByText := true, laidKinds := [.data], laidTests := true, laidLooks := .later }
def MsgWritesCardSaid : Prop := Claim7.holds Tryd.pinned (.plain (OpenSpec.ofChange msgWritesSpec)) msgWritesCard

/-- THE TIED CARD OF 'tattlelaw10.MsgReads'. -/
def msgReadsCard : Claim7 := { stood := { row := msgReadsRow, standIns := [], harness := (true, "fb50b0e2316f0128969b83bbe4fd4bd839ad5a712a5659d44791620c8a72a7d5"), looks := false }, kinds := [], alts := [], laidByText := true, laidKinds := [.data], laidTests := true, laidLooks := .later }
def MsgReadsCardSaid : Prop := Claim7.holds Tryd.pinned (.plain (OpenSpec.ofChange msgReadsSpec)) msgReadsCard

/-- THE TIED CARD OF 'tattlelaw10.MsgTurns'. -/
def msgTurnsCard : Claim7 := { stood := { row := msgTurnsRow, standIns := [], harness := (true, "fb50b0e2316f0128969b83bbe4fd4bd839ad5a712a5659d44791620c8a72a7d5"), looks := false }, kinds := [], alts := [], laidByText := true, laidKinds := [.data], laidTests := true, laidLooks := .later }
def MsgTurnsCardSaid : Prop := Claim7.holds Tryd.pinned (.plain (OpenSpec.ofChange msgTurnsSpec)) msgTurnsCard

/-- THE TIED CARD OF 'tattlelaw10.MsgHeads'. -/
def msgHeadsCard : Claim7 := { stood := { row := msgHeadsRow, standIns := [], harness := (true, "fb50b0e2316f0128969b83bbe4fd4bd839ad5a712a5659d44791620c8a72a7d5"), looks := false }, kinds := [], alts := [], laidByText := true, laidKinds := [.data], laidTests := true, laidLooks := .later }
def MsgHeadsCardSaid : Prop := Claim7.holds Tryd.pinned (.plain (OpenSpec.ofChange msgHeadsSpec)) msgHeadsCard

/-- THE TIED CARD OF 'tattlelaw10.MsgParts'. -/
def msgPartsCard : Claim7 := { stood := { row := msgPartsRow, standIns := [], harness := (true, "fb50b0e2316f0128969b83bbe4fd4bd839ad5a712a5659d44791620c8a72a7d5"), looks := false }, kinds := [], alts := [], laidByText := true, laidKinds := [.data], laidTests := true, laidLooks := .later }
def MsgPartsCardSaid : Prop := Claim7.holds Tryd.pinned (.plain (OpenSpec.ofChange msgPartsSpec)) msgPartsCard

/-- THE TIED CARD OF 'tattlelaw10.MsgKinds'. -/
def msgKindsCard : Claim7 := { stood := { row := msgKindsRow, standIns := [], harness := (true, "fb50b0e2316f0128969b83bbe4fd4bd839ad5a712a5659d44791620c8a72a7d5"), looks := false }, kinds := [], alts := [], laidByText := true, laidKinds := [.data], laidTests := true, laidLooks := .later }
def MsgKindsCardSaid : Prop := Claim7.holds Tryd.pinned (.plain (OpenSpec.ofChange msgKindsSpec)) msgKindsCard

/-- THE SECOND FORM's CARD OF 'tattlelaw10.MsgWrites'. -/
def msgWritesUptoCard : Claim7 := { stood := { row := msgWritesUptoRow, standIns := [], harness := (true, "fb50b0e2316f0128969b83bbe4fd4bd839ad5a712a5659d44791620c8a72a7d5"), looks := false }, kinds := [], alts := [], laidByText := true, laidKinds := [.data], laidTests := true, laidLooks := .later }
def MsgWritesUptoCardSaid : Prop := Claim7.holds Tryd.pinned (.plain (OpenSpec.upto msgWritesSpec)) msgWritesUptoCard

/-- THE SECOND FORM's CARD OF 'tattlelaw10.MsgReads'. -/
def msgReadsUptoCard : Claim7 := { stood := { row := msgReadsUptoRow, standIns := [], harness := (true, "fb50b0e2316f0128969b83bbe4fd4bd839ad5a712a5659d44791620c8a72a7d5"), looks := false }, kinds := [], alts := [], laidByText := true, laidKinds := [.data], laidTests := true, laidLooks := .later }
def MsgReadsUptoCardSaid : Prop := Claim7.holds Tryd.pinned (.plain (OpenSpec.upto msgReadsSpec)) msgReadsUptoCard

/-- THE SECOND FORM's CARD OF 'tattlelaw10.MsgTurns'. -/
def msgTurnsUptoCard : Claim7 := { stood := { row := msgTurnsUptoRow, standIns := [], harness := (true, "fb50b0e2316f0128969b83bbe4fd4bd839ad5a712a5659d44791620c8a72a7d5"), looks := false }, kinds := [], alts := [], laidByText := true, laidKinds := [.data], laidTests := true, laidLooks := .later }
def MsgTurnsUptoCardSaid : Prop := Claim7.holds Tryd.pinned (.plain (OpenSpec.upto msgTurnsSpec)) msgTurnsUptoCard

/-- THE SECOND FORM's CARD OF 'tattlelaw10.MsgHeads'. -/
def msgHeadsUptoCard : Claim7 := { stood := { row := msgHeadsUptoRow, standIns := [], harness := (true, "fb50b0e2316f0128969b83bbe4fd4bd839ad5a712a5659d44791620c8a72a7d5"), looks := false }, kinds := [], alts := [], laidByText := true, laidKinds := [.data], laidTests := true, laidLooks := .later }
def MsgHeadsUptoCardSaid : Prop := Claim7.holds Tryd.pinned (.plain (OpenSpec.upto msgHeadsSpec)) msgHeadsUptoCard

/-- THE SECOND FORM's CARD OF 'tattlelaw10.MsgParts'. -/
def msgPartsUptoCard : Claim7 := { stood := { row := msgPartsUptoRow, standIns := [], harness := (true, "fb50b0e2316f0128969b83bbe4fd4bd839ad5a712a5659d44791620c8a72a7d5"), looks := false }, kinds := [], alts := [], laidByText := true, laidKinds := [.data], laidTests := true, laidLooks := .later }
def MsgPartsUptoCardSaid : Prop := Claim7.holds Tryd.pinned (.plain (OpenSpec.upto msgPartsSpec)) msgPartsUptoCard

/-- THE SECOND FORM's CARD OF 'tattlelaw10.MsgKinds'. -/
def msgKindsUptoCard : Claim7 := { stood := { row := msgKindsUptoRow, standIns := [], harness := (true, "fb50b0e2316f0128969b83bbe4fd4bd839ad5a712a5659d44791620c8a72a7d5"), looks := false }, kinds := [], alts := [], laidByText := true, laidKinds := [.data], laidTests := true, laidLooks := .later }
def MsgKindsUptoCardSaid : Prop := Claim7.holds Tryd.pinned (.plain (OpenSpec.upto msgKindsSpec)) msgKindsUptoCard
end Rows
end Go.Proofs.YtjeepmdklbfgeaaDoor
