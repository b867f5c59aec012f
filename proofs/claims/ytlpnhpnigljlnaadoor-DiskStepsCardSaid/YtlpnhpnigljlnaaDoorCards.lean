/-
  DERIVED. GIVEN WITH THE SEED: THE CARDS: each row of YtlpnhpnigljlnaaDoorRows.lean that lists a variable, with what it lists TIED to the program's text (the seventh form; the later family's looks); each row that meets fmt, with fmt's text TOLD by the authors' own Lean function (tested against real Go, not proved from fmt's source: count such statements apart). THE CARD IS WHAT COUNTS. Prove the row's statement (the work); the ties are given (YtlpnhpnigljlnaaDoorTie.lean); close each card by the builder's one call (the guide's Derived/Test/ToyasCard.lean, 'card_holds'). Laid BY PROGRAM, IN A SANDBOX (cutbox-door.mjs). By AI agents, Wed Nov 11 2026. No macro, syntax, notation, axiom, sorry.
-/
import Derived.Test.YtlpnhpnigljlnaaDoorRows
import GoSem.ClaimSeven
namespace Go.Proofs.YtlpnhpnigljlnaaDoor
namespace Rows

/-- THE TIED CARD OF 'tattlelaw16.DiskReads'. -/
def diskReadsCard : Claim7 := { stood := { row := diskReadsRow, standIns := [], harness := (true, "bb35769ad4b166e5f42b57abe4c230f4eff12871163c1fa16754bd30c422771a"), looks := false }, kinds := [], alts := [], laidByText := true, laidKinds := [.data], laidTests := true, laidLooks := .later }
def DiskReadsCardSaid : Prop := Claim7.holds Tryd.pinned (.plain (OpenSpec.ofChange diskReadsSpec)) diskReadsCard

/-- THE TIED CARD OF 'tattlelaw16.DiskWrites'. -/
def diskWritesCard : Claim7 := { stood := { row := diskWritesRow, standIns := [], harness := (true, "bb35769ad4b166e5f42b57abe4c230f4eff12871163c1fa16754bd30c422771a"), looks := false }, kinds := [], alts := [], laidByText := true, laidKinds := [.data], laidTests := true, laidLooks := .later }
def DiskWritesCardSaid : Prop := Claim7.holds Tryd.pinned (.plain (OpenSpec.ofChange diskWritesSpec)) diskWritesCard

/-- THE TIED CARD OF 'tattlelaw16.DiskTears'. -/
def diskTearsCard : Claim7 := { stood := { row := diskTearsRow, standIns := [], harness := (true, "bb35769ad4b166e5f42b57abe4c230f4eff12871163c1fa16754bd30c422771a"), looks := false }, kinds := [], alts := [], laidByText := true, laidKinds := [.data], laidTests := true, laidLooks := .later }
def DiskTearsCardSaid : Prop := Claim7.holds Tryd.pinned (.plain (OpenSpec.ofChange diskTearsSpec)) diskTearsCard

/-- THE TIED CARD OF 'tattlelaw16.DiskSteps'. -/
def diskStepsCard : Claim7 := { stood := { row := diskStepsRow, standIns := [], harness := (true, "bb35769ad4b166e5f42b57abe4c230f4eff12871163c1fa16754bd30c422771a"), looks := false }, kinds := [], alts := [], laidByText := true, laidKinds := [.data], laidTests := true, laidLooks := .later }
def DiskStepsCardSaid : Prop := Claim7.holds Tryd.pinned (.plain (OpenSpec.ofChange diskStepsSpec)) diskStepsCard

/-- THE TIED CARD OF 'tattlelaw16.DiskTurns'. -/
def diskTurnsCard : Claim7 := { stood := { row := diskTurnsRow, standIns := [], harness := (true, "bb35769ad4b166e5f42b57abe4c230f4eff12871163c1fa16754bd30c422771a"), looks := false }, kinds := [], alts := [], laidByText := true, laidKinds := [.data], laidTests := true, laidLooks := .later }
def DiskTurnsCardSaid : Prop := Claim7.holds Tryd.pinned (.plain (OpenSpec.ofChange diskTurnsSpec)) diskTurnsCard

/-- THE TIED CARD OF 'tattlelaw16.DiskTurnsAbout'. -/
def diskTurnsAboutCard : Claim7 := { stood := { row := diskTurnsAboutRow, standIns := [], harness := (true, "bb35769ad4b166e5f42b57abe4c230f4eff12871163c1fa16754bd30c422771a"), looks := false }, kinds := [], alts := [], laidByText := true, laidKinds := [.data], laidTests := true, laidLooks := .later }
def DiskTurnsAboutCardSaid : Prop := Claim7.holds Tryd.pinned (.plain (OpenSpec.ofChange diskTurnsAboutSpec)) diskTurnsAboutCard

/-- THE SECOND FORM's CARD OF 'tattlelaw16.DiskReads'. -/
def diskReadsUptoCard : Claim7 := { stood := { row := diskReadsUptoRow, standIns := [], harness := (true, "bb35769ad4b166e5f42b57abe4c230f4eff12871163c1fa16754bd30c422771a"), looks := false }, kinds := [], alts := [], laidByText := true, laidKinds := [.data], laidTests := true, laidLooks := .later }
def DiskReadsUptoCardSaid : Prop := Claim7.holds Tryd.pinned (.plain (OpenSpec.upto diskReadsSpec)) diskReadsUptoCard

/-- THE SECOND FORM's CARD OF 'tattlelaw16.DiskWrites'. -/
def diskWritesUptoCard : Claim7 := { stood := { row := diskWritesUptoRow, standIns := [], harness := (true, "bb35769ad4b166e5f42b57abe4c230f4eff12871163c1fa16754bd30c422771a"), looks := false }, kinds := [], alts := [], laidByText := true, laidKinds := [.data], laidTests := true, laidLooks := .later }
def DiskWritesUptoCardSaid : Prop := Claim7.holds Tryd.pinned (.plain (OpenSpec.upto diskWritesSpec)) diskWritesUptoCard

/-- THE SECOND FORM's CARD OF 'tattlelaw16.DiskTears'. -/
def diskTearsUptoCard : Claim7 := { stood := { row := diskTearsUptoRow, standIns := [], harness := (true, "bb35769ad4b166e5f42b57abe4c230f4eff12871163c1fa16754bd30c422771a"), looks := false }, kinds := [], alts := [], laidByText := true, laidKinds := [.data], laidTests := true, laidLooks := .later }
def DiskTearsUptoCardSaid : Prop := Claim7.holds Tryd.pinned (.plain (OpenSpec.upto diskTearsSpec)) diskTearsUptoCard

/-- THE SECOND FORM's CARD OF 'tattlelaw16.DiskSteps'. -/
def diskStepsUptoCard : Claim7 := { stood := { row := diskStepsUptoRow, standIns := [], harness := (true, "bb35769ad4b166e5f42b57abe4c230f4eff12871163c1fa16754bd30c422771a"), looks := false }, kinds := [], alts := [], laidByText := true, laidKinds := [.data], laidTests := true, laidLooks := .later }
def DiskStepsUptoCardSaid : Prop := Claim7.holds Tryd.pinned (.plain (OpenSpec.upto diskStepsSpec)) diskStepsUptoCard

/-- THE SECOND FORM's CARD OF 'tattlelaw16.DiskTurns'. -/
def diskTurnsUptoCard : Claim7 := { stood := { row := diskTurnsUptoRow, standIns := [], harness := (true, "bb35769ad4b166e5f42b57abe4c230f4eff12871163c1fa16754bd30c422771a"), looks := false }, kinds := [], alts := [], laidByText := true, laidKinds := [.data], laidTests := true, laidLooks := .later }
def DiskTurnsUptoCardSaid : Prop := Claim7.holds Tryd.pinned (.plain (OpenSpec.upto diskTurnsSpec)) diskTurnsUptoCard

/-- THE SECOND FORM's CARD OF 'tattlelaw16.DiskTurnsAbout'. -/
def diskTurnsAboutUptoCard : Claim7 := { stood := { row := diskTurnsAboutUptoRow, standIns := [], harness := (true, "bb35769ad4b166e5f42b57abe4c230f4eff12871163c1fa16754bd30c422771a"), looks := false }, kinds := [], alts := [], laidByText := true, laidKinds := [.data], laidTests := true, laidLooks := .later }
def DiskTurnsAboutUptoCardSaid : Prop := Claim7.holds Tryd.pinned (.plain (OpenSpec.upto diskTurnsAboutSpec)) diskTurnsAboutUptoCard
end Rows
end Go.Proofs.YtlpnhpnigljlnaaDoor
