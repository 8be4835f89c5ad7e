/-
  DERIVED. GIVEN WITH THE SEED: THE CARDS: each row of YtdlkaeegcagkpaaDoorRows.lean that lists a variable, with what it lists TIED to the program's text (the seventh form; the later family's looks); each row that meets fmt, with fmt's text TOLD by the authors' own Lean function (tested against real Go, not proved from fmt's source: count such statements apart). THE CARD IS WHAT COUNTS. Prove the row's statement (the work); the ties are given (YtdlkaeegcagkpaaDoorTie.lean); close each card by the builder's one call (the guide's Derived/Test/ToyasCard.lean, 'card_holds'). Laid BY PROGRAM, IN A SANDBOX (cutbox-door.mjs). By AI agents, Wed Nov 11 2026. No macro, syntax, notation, axiom, sorry.
-/
import Derived.Test.YtdlkaeegcagkpaaDoorRows
import GoSem.ClaimSeven
namespace Go.Proofs.YtdlkaeegcagkpaaDoor
namespace Rows

/-- THE TIED CARD OF 'marlstonelaw02.SumOf'. -/
def sumOfCard : Claim7 := { stood := { row := sumOfRow, standIns := [], harness := (true, "253d7c24486b3e22a5eee60d57c2677b88496c2ac86783f97709c285f54a50d9"), looks := false }, kinds := [], alts := [], laidByText := true, laidKinds := [.data], laidTests := true, laidLooks := .later }
def SumOfCardSaid : Prop := Claim7.holds Tryd.pinned (.plain (OpenSpec.ofChange sumOfSpec)) sumOfCard

/-- THE TIED CARD OF 'marlstonelaw02.SumChecks'. -/
def sumChecksCard : Claim7 := { stood := { row := sumChecksRow, standIns := [], harness := (true, "253d7c24486b3e22a5eee60d57c2677b88496c2ac86783f97709c285f54a50d9"), looks := false }, kinds := [], alts := [], laidByText := true, laidKinds := [.data], laidTests := true, laidLooks := .later }
def SumChecksCardSaid : Prop := Claim7.holds Tryd.pinned (.plain (OpenSpec.ofChange sumChecksSpec)) sumChecksCard

/-- THE TIED CARD OF 'marlstonelaw02.SumPieces'. -/
def sumPiecesCard : Claim7 := { stood := { row := sumPiecesRow, standIns := [], harness := (true, "253d7c24486b3e22a5eee60d57c2677b88496c2ac86783f97709c285f54a50d9"), looks := false }, kinds := [], alts := [], laidByText := true, laidKinds := [.data], laidTests := true, laidLooks := .later }
def SumPiecesCardSaid : Prop := Claim7.holds Tryd.pinned (.plain (OpenSpec.ofChange sumPiecesSpec)) sumPiecesCard

/-- THE TIED CARD OF 'marlstonelaw02.SumKept'. -/
def sumKeptCard : Claim7 := { stood := { row := sumKeptRow, standIns := [], harness := (true, "253d7c24486b3e22a5eee60d57c2677b88496c2ac86783f97709c285f54a50d9"), looks := false }, kinds := [], alts := [], laidByText := true, laidKinds := [.data], laidTests := true, laidLooks := .later }
def SumKeptCardSaid : Prop := Claim7.holds Tryd.pinned (.plain (OpenSpec.ofChange sumKeptSpec)) sumKeptCard

/-- THE TIED CARD OF 'marlstonelaw02.SumBursts'. -/
def sumBurstsCard : Claim7 := { stood := { row := sumBurstsRow, standIns := [], harness := (true, "253d7c24486b3e22a5eee60d57c2677b88496c2ac86783f97709c285f54a50d9"), looks := false }, kinds := [], alts := [], laidByText := true, laidKinds := [.data], laidTests := true, laidLooks := .later }
def SumBurstsCardSaid : Prop := Claim7.holds Tryd.pinned (.plain (OpenSpec.ofChange sumBurstsSpec)) sumBurstsCard

/-- THE TIED CARD OF 'marlstonelaw02.SumDigits'. -/
def sumDigitsCard : Claim7 := { stood := { row := sumDigitsRow, standIns := [], harness := (true, "253d7c24486b3e22a5eee60d57c2677b88496c2ac86783f97709c285f54a50d9"), looks := false }, kinds := [], alts := [], laidByText := true, laidKinds := [.data], laidTests := true, laidLooks := .later }
def SumDigitsCardSaid : Prop := Claim7.holds Tryd.pinned (.plain (OpenSpec.ofChange sumDigitsSpec)) sumDigitsCard

/-- THE SECOND FORM's CARD OF 'marlstonelaw02.SumOf'. -/
def sumOfUptoCard : Claim7 := { stood := { row := sumOfUptoRow, standIns := [], harness := (true, "253d7c24486b3e22a5eee60d57c2677b88496c2ac86783f97709c285f54a50d9"), looks := false }, kinds := [], alts := [], laidByText := true, laidKinds := [.data], laidTests := true, laidLooks := .later }
def SumOfUptoCardSaid : Prop := Claim7.holds Tryd.pinned (.plain (OpenSpec.upto sumOfSpec)) sumOfUptoCard

/-- THE SECOND FORM's CARD OF 'marlstonelaw02.SumChecks'. -/
def sumChecksUptoCard : Claim7 := { stood := { row := sumChecksUptoRow, standIns := [], harness := (true, "253d7c24486b3e22a5eee60d57c2677b88496c2ac86783f97709c285f54a50d9"), looks := false }, kinds := [], alts := [], laidByText := true, laidKinds := [.data], laidTests := true, laidLooks := .later }
def SumChecksUptoCardSaid : Prop := Claim7.holds Tryd.pinned (.plain (OpenSpec.upto sumChecksSpec)) sumChecksUptoCard

/-- THE SECOND FORM's CARD OF 'marlstonelaw02.SumPieces'. -/
def sumPiecesUptoCard : Claim7 := { stood := { row := sumPiecesUptoRow, standIns := [], harness := (true, "253d7c24486b3e22a5eee60d57c2677b88496c2ac86783f97709c285f54a50d9"), looks := false }, kinds := [], alts := [], laidByText := true, laidKinds := [.data], laidTests := true, laidLooks := .later }
def SumPiecesUptoCardSaid : Prop := Claim7.holds Tryd.pinned (.plain (OpenSpec.upto sumPiecesSpec)) sumPiecesUptoCard

/-- THE SECOND FORM's CARD OF 'marlstonelaw02.SumKept'. -/
def sumKeptUptoCard : Claim7 := { stood := { row := sumKeptUptoRow, standIns := [], harness := (true, "253d7c24486b3e22a5eee60d57c2677b88496c2ac86783f97709c285f54a50d9"), looks := false }, kinds := [], alts := [], laidByText := true, laidKinds := [.data], laidTests := true, laidLooks := .later }
def SumKeptUptoCardSaid : Prop := Claim7.holds Tryd.pinned (.plain (OpenSpec.upto sumKeptSpec)) sumKeptUptoCard

/-- THE SECOND FORM's CARD OF 'marlstonelaw02.SumBursts'. -/
def sumBurstsUptoCard : Claim7 := { stood := { row := sumBurstsUptoRow, standIns := [], harness := (true, "253d7c24486b3e22a5eee60d57c2677b88496c2ac86783f97709c285f54a50d9"), looks := false }, kinds := [], alts := [], laidByText := true, laidKinds := [.data], laidTests := true, laidLooks := .later }
def SumBurstsUptoCardSaid : Prop := Claim7.holds Tryd.pinned (.plain (OpenSpec.upto sumBurstsSpec)) sumBurstsUptoCard

/-- THE SECOND FORM's CARD OF 'marlstonelaw02.SumDigits'. -/
def sumDigitsUptoCard : Claim7 := { stood := { row := sumDigitsUptoRow, standIns := [], harness := (true, "253d7c24486b3e22a5eee60d57c2677b88496c2ac86783f97709c285f54a50d9"), looks := false }, kinds := [], alts := [], laidByText := true, laidKinds := [.data], laidTests := true, laidLooks := .later }
def SumDigitsUptoCardSaid : Prop := Claim7.holds Tryd.pinned (.plain (OpenSpec.upto sumDigitsSpec)) sumDigitsUptoCard
end Rows
end Go.Proofs.YtdlkaeegcagkpaaDoor
