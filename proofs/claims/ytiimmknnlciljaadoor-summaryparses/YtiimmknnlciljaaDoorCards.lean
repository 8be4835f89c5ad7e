/-
  DERIVED. GIVEN WITH THE SEED: THE CARDS: each row of YtiimmknnlciljaaDoorRows.lean that lists a variable, with what it lists TIED to the program's text (the seventh form; the later family's looks); each row that meets fmt, with fmt's text TOLD by the authors' own Lean function (tested against real Go, not proved from fmt's source: count such statements apart). THE CARD IS WHAT COUNTS. Prove the row's statement (the work); the ties are given (YtiimmknnlciljaaDoorTie.lean); close each card by the builder's one call (the guide's Derived/Test/ToyasCard.lean, 'card_holds'). Laid BY PROGRAM, IN A SANDBOX (cutbox-door.mjs). By AI agents, Wed Nov 11 2026. No macro, syntax, notation, axiom, sorry.
-/
import Derived.Test.YtiimmknnlciljaaDoorRows
import GoSem.ClaimSeven
namespace Go.Proofs.YtiimmknnlciljaaDoor
namespace Rows

/-- THE TIED CARD OF 'marlstonelaw14.SummaryBytes'. -/
def summaryBytesCard : Claim7 := { stood := { row := summaryBytesRow, standIns := [], harness := (true, "149479f12dfa0d493e3348b505bb637ce75bf490313d44cd1ef59b1acd0eb049"), looks := false }, kinds := [], alts := [], laidByText := true, laidKinds := [.data], laidTests := true, laidLooks := .later }
def SummaryBytesCardSaid : Prop := Claim7.holds Tryd.pinned (.plain (OpenSpec.ofChange summaryBytesSpec)) summaryBytesCard

/-- THE TIED CARD OF 'marlstonelaw14.SummaryParses'. -/
def summaryParsesCard : Claim7 := { stood := { row := summaryParsesRow, standIns := [], harness := (true, "149479f12dfa0d493e3348b505bb637ce75bf490313d44cd1ef59b1acd0eb049"), looks := false }, kinds := [], alts := [], laidByText := true, laidKinds := [.data], laidTests := true, laidLooks := .later }
def SummaryParsesCardSaid : Prop := Claim7.holds Tryd.pinned (.plain (OpenSpec.ofChange summaryParsesSpec)) summaryParsesCard

/-- THE TIED CARD OF 'marlstonelaw14.SummaryPlaces'. -/
def summaryPlacesCard : Claim7 := { stood := { row := summaryPlacesRow, standIns := [], harness := (true, "149479f12dfa0d493e3348b505bb637ce75bf490313d44cd1ef59b1acd0eb049"), looks := false }, kinds := [], alts := [], laidByText := true, laidKinds := [.data], laidTests := true, laidLooks := .later }
def SummaryPlacesCardSaid : Prop := Claim7.holds Tryd.pinned (.plain (OpenSpec.ofChange summaryPlacesSpec)) summaryPlacesCard

/-- THE TIED CARD OF 'marlstonelaw14.SummaryBack'. -/
def summaryBackCard : Claim7 := { stood := { row := summaryBackRow, standIns := [], harness := (true, "149479f12dfa0d493e3348b505bb637ce75bf490313d44cd1ef59b1acd0eb049"), looks := false }, kinds := [], alts := [], laidByText := true, laidKinds := [.data], laidTests := true, laidLooks := .later }
def SummaryBackCardSaid : Prop := Claim7.holds Tryd.pinned (.plain (OpenSpec.ofChange summaryBackSpec)) summaryBackCard

/-- THE TIED CARD OF 'marlstonelaw14.SummaryOnce'. -/
def summaryOnceCard : Claim7 := { stood := { row := summaryOnceRow, standIns := [], harness := (true, "149479f12dfa0d493e3348b505bb637ce75bf490313d44cd1ef59b1acd0eb049"), looks := false }, kinds := [], alts := [], laidByText := true, laidKinds := [.data], laidTests := true, laidLooks := .later }
def SummaryOnceCardSaid : Prop := Claim7.holds Tryd.pinned (.plain (OpenSpec.ofChange summaryOnceSpec)) summaryOnceCard

/-- THE TIED CARD OF 'marlstonelaw14.SummaryLevels'. -/
def summaryLevelsCard : Claim7 := { stood := { row := summaryLevelsRow, standIns := [], harness := (true, "149479f12dfa0d493e3348b505bb637ce75bf490313d44cd1ef59b1acd0eb049"), looks := false }, kinds := [], alts := [], laidByText := true, laidKinds := [.data], laidTests := true, laidLooks := .later }
def SummaryLevelsCardSaid : Prop := Claim7.holds Tryd.pinned (.plain (OpenSpec.ofChange summaryLevelsSpec)) summaryLevelsCard

/-- THE TIED CARD OF 'marlstonelaw14.SummaryParts'. -/
def summaryPartsCard : Claim7 := { stood := { row := summaryPartsRow, standIns := [], harness := (true, "149479f12dfa0d493e3348b505bb637ce75bf490313d44cd1ef59b1acd0eb049"), looks := false }, kinds := [], alts := [], laidByText := true, laidKinds := [.data], laidTests := true, laidLooks := .later }
def SummaryPartsCardSaid : Prop := Claim7.holds Tryd.pinned (.plain (OpenSpec.ofChange summaryPartsSpec)) summaryPartsCard

/-- THE TIED CARD OF 'marlstonelaw14.SummaryAlone'. -/
def summaryAloneCard : Claim7 := { stood := { row := summaryAloneRow, standIns := [], harness := (true, "149479f12dfa0d493e3348b505bb637ce75bf490313d44cd1ef59b1acd0eb049"), looks := false }, kinds := [], alts := [], laidByText := true, laidKinds := [.data], laidTests := true, laidLooks := .later }
def SummaryAloneCardSaid : Prop := Claim7.holds Tryd.pinned (.plain (OpenSpec.ofChange summaryAloneSpec)) summaryAloneCard

/-- THE SECOND FORM's CARD OF 'marlstonelaw14.SummaryBytes'. -/
def summaryBytesUptoCard : Claim7 := { stood := { row := summaryBytesUptoRow, standIns := [], harness := (true, "149479f12dfa0d493e3348b505bb637ce75bf490313d44cd1ef59b1acd0eb049"), looks := false }, kinds := [], alts := [], laidByText := true, laidKinds := [.data], laidTests := true, laidLooks := .later }
def SummaryBytesUptoCardSaid : Prop := Claim7.holds Tryd.pinned (.plain (OpenSpec.upto summaryBytesSpec)) summaryBytesUptoCard

/-- THE SECOND FORM's CARD OF 'marlstonelaw14.SummaryParses'. -/
def summaryParsesUptoCard : Claim7 := { stood := { row := summaryParsesUptoRow, standIns := [], harness := (true, "149479f12dfa0d493e3348b505bb637ce75bf490313d44cd1ef59b1acd0eb049"), looks := false }, kinds := [], alts := [], laidByText := true, laidKinds := [.data], laidTests := true, laidLooks := .later }
def SummaryParsesUptoCardSaid : Prop := Claim7.holds Tryd.pinned (.plain (OpenSpec.upto summaryParsesSpec)) summaryParsesUptoCard

/-- THE SECOND FORM's CARD OF 'marlstonelaw14.SummaryPlaces'. -/
def summaryPlacesUptoCard : Claim7 := { stood := { row := summaryPlacesUptoRow, standIns := [], harness := (true, "149479f12dfa0d493e3348b505bb637ce75bf490313d44cd1ef59b1acd0eb049"), looks := false }, kinds := [], alts := [], laidByText := true, laidKinds := [.data], laidTests := true, laidLooks := .later }
def SummaryPlacesUptoCardSaid : Prop := Claim7.holds Tryd.pinned (.plain (OpenSpec.upto summaryPlacesSpec)) summaryPlacesUptoCard

/-- THE SECOND FORM's CARD OF 'marlstonelaw14.SummaryBack'. -/
def summaryBackUptoCard : Claim7 := { stood := { row := summaryBackUptoRow, standIns := [], harness := (true, "149479f12dfa0d493e3348b505bb637ce75bf490313d44cd1ef59b1acd0eb049"), looks := false }, kinds := [], alts := [], laidByText := true, laidKinds := [.data], laidTests := true, laidLooks := .later }
def SummaryBackUptoCardSaid : Prop := Claim7.holds Tryd.pinned (.plain (OpenSpec.upto summaryBackSpec)) summaryBackUptoCard

/-- THE SECOND FORM's CARD OF 'marlstonelaw14.SummaryOnce'. -/
def summaryOnceUptoCard : Claim7 := { stood := { row := summaryOnceUptoRow, standIns := [], harness := (true, "149479f12dfa0d493e3348b505bb637ce75bf490313d44cd1ef59b1acd0eb049"), looks := false }, kinds := [], alts := [], laidByText := true, laidKinds := [.data], laidTests := true, laidLooks := .later }
def SummaryOnceUptoCardSaid : Prop := Claim7.holds Tryd.pinned (.plain (OpenSpec.upto summaryOnceSpec)) summaryOnceUptoCard

/-- THE SECOND FORM's CARD OF 'marlstonelaw14.SummaryLevels'. -/
def summaryLevelsUptoCard : Claim7 := { stood := { row := summaryLevelsUptoRow, standIns := [], harness := (true, "149479f12dfa0d493e3348b505bb637ce75bf490313d44cd1ef59b1acd0eb049"), looks := false }, kinds := [], alts := [], laidByText := true, laidKinds := [.data], laidTests := true, laidLooks := .later }
def SummaryLevelsUptoCardSaid : Prop := Claim7.holds Tryd.pinned (.plain (OpenSpec.upto summaryLevelsSpec)) summaryLevelsUptoCard

/-- THE SECOND FORM's CARD OF 'marlstonelaw14.SummaryParts'. -/
def summaryPartsUptoCard : Claim7 := { stood := { row := summaryPartsUptoRow, standIns := [], harness := (true, "149479f12dfa0d493e3348b505bb637ce75bf490313d44cd1ef59b1acd0eb049"), looks := false }, kinds := [], alts := [], laidByText := true, laidKinds := [.data], laidTests := true, laidLooks := .later }
def SummaryPartsUptoCardSaid : Prop := Claim7.holds Tryd.pinned (.plain (OpenSpec.upto summaryPartsSpec)) summaryPartsUptoCard

/-- THE SECOND FORM's CARD OF 'marlstonelaw14.SummaryAlone'. -/
def summaryAloneUptoCard : Claim7 := { stood := { row := summaryAloneUptoRow, standIns := [], harness := (true, "149479f12dfa0d493e3348b505bb637ce75bf490313d44cd1ef59b1acd0eb049"), looks := false }, kinds := [], alts := [], laidByText := true, laidKinds := [.data], laidTests := true, laidLooks := .later }
def SummaryAloneUptoCardSaid : Prop := Claim7.holds Tryd.pinned (.plain (OpenSpec.upto summaryAloneSpec)) summaryAloneUptoCard
end Rows
end Go.Proofs.YtiimmknnlciljaaDoor
