/-
  DERIVED. GIVEN WITH THE SEED: THE CARDS: each row of YtaamekkbgaeafaaDoorRows.lean that lists a variable, with what it lists TIED to the program's text (the seventh form; the later family's looks); each row that meets fmt, with fmt's text TOLD by the authors' own Lean function (tested against real Go, not proved from fmt's source: count such statements apart). THE CARD IS WHAT COUNTS. Prove the row's statement (the work); the ties are given (YtaamekkbgaeafaaDoorTie.lean); close each card by the builder's one call (the guide's Derived/Test/ToyasCard.lean, 'card_holds'). Laid BY PROGRAM, IN A SANDBOX (cutbox-door.mjs). By AI agents, Wed Nov 11 2026. No macro, syntax, notation, axiom, sorry.
-/
import Derived.Test.YtaamekkbgaeafaaDoorRows
import GoSem.ClaimSeven
namespace Go.Proofs.YtaamekkbgaeafaaDoor
namespace Rows

/-- THE TIED CARD OF 'marlstonelaw10.MemPlays'. -/
def memPlaysCard : Claim7 := { stood := { row := memPlaysRow, standIns := [], harness := (true, "614cae9945f2eef18355dc967635c3aed4c002f9c6ab7f6fcc1a2e3a5fee8469"), looks := false }, kinds := [], alts := [], laidByText := true, laidKinds := [.data], laidTests := true, laidLooks := .later }
def MemPlaysCardSaid : Prop := Claim7.holds Tryd.pinned (.plain (OpenSpec.ofChange memPlaysSpec)) memPlaysCard

/-- THE TIED CARD OF 'marlstonelaw10.MemFolds'. -/
def memFoldsCard : Claim7 := { stood := { row := memFoldsRow, standIns := [], harness := (true, "614cae9945f2eef18355dc967635c3aed4c002f9c6ab7f6fcc1a2e3a5fee8469"), looks := false }, kinds := [], alts := [], laidByText := true, laidKinds := [.data], laidTests := true, laidLooks := .later }
def MemFoldsCardSaid : Prop := Claim7.holds Tryd.pinned (.plain (OpenSpec.ofChange memFoldsSpec)) memFoldsCard

/-- THE TIED CARD OF 'marlstonelaw10.MemChains'. -/
def memChainsCard : Claim7 := { stood := { row := memChainsRow, standIns := [], harness := (true, "614cae9945f2eef18355dc967635c3aed4c002f9c6ab7f6fcc1a2e3a5fee8469"), looks := false }, kinds := [], alts := [], laidByText := true, laidKinds := [.data], laidTests := true, laidLooks := .later }
def MemChainsCardSaid : Prop := Claim7.holds Tryd.pinned (.plain (OpenSpec.ofChange memChainsSpec)) memChainsCard

/-- THE TIED CARD OF 'marlstonelaw10.MemFull'. -/
def memFullCard : Claim7 := { stood := { row := memFullRow, standIns := [], harness := (true, "614cae9945f2eef18355dc967635c3aed4c002f9c6ab7f6fcc1a2e3a5fee8469"), looks := false }, kinds := [], alts := [], laidByText := true, laidKinds := [.data], laidTests := true, laidLooks := .later }
def MemFullCardSaid : Prop := Claim7.holds Tryd.pinned (.plain (OpenSpec.ofChange memFullSpec)) memFullCard

/-- THE TIED CARD OF 'marlstonelaw10.MemRanges'. -/
def memRangesCard : Claim7 := { stood := { row := memRangesRow, standIns := [], harness := (true, "614cae9945f2eef18355dc967635c3aed4c002f9c6ab7f6fcc1a2e3a5fee8469"), looks := false }, kinds := [], alts := [], laidByText := true, laidKinds := [.data], laidTests := true, laidLooks := .later }
def MemRangesCardSaid : Prop := Claim7.holds Tryd.pinned (.plain (OpenSpec.ofChange memRangesSpec)) memRangesCard

/-- THE TIED CARD OF 'marlstonelaw10.MemLast'. -/
def memLastCard : Claim7 := { stood := { row := memLastRow, standIns := [], harness := (true, "614cae9945f2eef18355dc967635c3aed4c002f9c6ab7f6fcc1a2e3a5fee8469"), looks := false }, kinds := [], alts := [], laidByText := true, laidKinds := [.data], laidTests := true, laidLooks := .later }
def MemLastCardSaid : Prop := Claim7.holds Tryd.pinned (.plain (OpenSpec.ofChange memLastSpec)) memLastCard

/-- THE SECOND FORM's CARD OF 'marlstonelaw10.MemPlays'. -/
def memPlaysUptoCard : Claim7 := { stood := { row := memPlaysUptoRow, standIns := [], harness := (true, "614cae9945f2eef18355dc967635c3aed4c002f9c6ab7f6fcc1a2e3a5fee8469"), looks := false }, kinds := [], alts := [], laidByText := true, laidKinds := [.data], laidTests := true, laidLooks := .later }
def MemPlaysUptoCardSaid : Prop := Claim7.holds Tryd.pinned (.plain (OpenSpec.upto memPlaysSpec)) memPlaysUptoCard

/-- THE SECOND FORM's CARD OF 'marlstonelaw10.MemFolds'. -/
def memFoldsUptoCard : Claim7 := { stood := { row := memFoldsUptoRow, standIns := [], harness := (true, "614cae9945f2eef18355dc967635c3aed4c002f9c6ab7f6fcc1a2e3a5fee8469"), looks := false }, kinds := [], alts := [], laidByText := true, laidKinds := [.data], laidTests := true, laidLooks := .later }
def MemFoldsUptoCardSaid : Prop := Claim7.holds Tryd.pinned (.plain (OpenSpec.upto memFoldsSpec)) memFoldsUptoCard

/-- THE SECOND FORM's CARD OF 'marlstonelaw10.MemChains'. -/
def memChainsUptoCard : Claim7 := { stood := { row := memChainsUptoRow, standIns := [], harness := (true, "614cae9945f2eef18355dc967635c3aed4c002f9c6ab7f6fcc1a2e3a5fee8469"), looks := false }, kinds := [], alts := [], laidByText := true, laidKinds := [.data], laidTests := true, laidLooks := .later }
def MemChainsUptoCardSaid : Prop := Claim7.holds Tryd.pinned (.plain (OpenSpec.upto memChainsSpec)) memChainsUptoCard

/-- THE SECOND FORM's CARD OF 'marlstonelaw10.MemFull'. -/
def memFullUptoCard : Claim7 := { stood := { row := memFullUptoRow, standIns := [], harness := (true, "614cae9945f2eef18355dc967635c3aed4c002f9c6ab7f6fcc1a2e3a5fee8469"), looks := false }, kinds := [], alts := [], laidByText := true, laidKinds := [.data], laidTests := true, laidLooks := .later }
def MemFullUptoCardSaid : Prop := Claim7.holds Tryd.pinned (.plain (OpenSpec.upto memFullSpec)) memFullUptoCard

/-- THE SECOND FORM's CARD OF 'marlstonelaw10.MemRanges'. -/
def memRangesUptoCard : Claim7 := { stood := { row := memRangesUptoRow, standIns := [], harness := (true, "614cae9945f2eef18355dc967635c3aed4c002f9c6ab7f6fcc1a2e3a5fee8469"), looks := false }, kinds := [], alts := [], laidByText := true, laidKinds := [.data], laidTests := true, laidLooks := .later }
def MemRangesUptoCardSaid : Prop := Claim7.holds Tryd.pinned (.plain (OpenSpec.upto memRangesSpec)) memRangesUptoCard

/-- THE SECOND FORM's CARD OF 'marlstonelaw10.MemLast'. -/
def memLastUptoCard : Claim7 := { stood := { row := memLastUptoRow, standIns := [], harness := (true, "614cae9945f2eef18355dc967635c3aed4c002f9c6ab7f6fcc1a2e3a5fee8469"), looks := false }, kinds := [], alts := [], laidByText := true, laidKinds := [.data], laidTests := true, laidLooks := .later }
def MemLastUptoCardSaid : Prop := Claim7.holds Tryd.pinned (.plain (OpenSpec.upto memLastSpec)) memLastUptoCard
end Rows
end Go.Proofs.YtaamekkbgaeafaaDoor
