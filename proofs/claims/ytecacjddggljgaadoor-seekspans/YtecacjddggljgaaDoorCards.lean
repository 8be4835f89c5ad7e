/-
  DERIVED. GIVEN WITH THE SEED: THE CARDS: each row of YtecacjddggljgaaDoorRows.lean that lists a variable, with what it lists TIED to the program's text (the seventh form; the later family's looks); each row that meets fmt, with fmt's text TOLD by the authors' own Lean function (tested against real Go, not proved from fmt's source: count such statements apart). THE CARD IS WHAT COUNTS. Prove the row's statement (the work); the ties are given (YtecacjddggljgaaDoorTie.lean); close each card by the builder's one call (the guide's Derived/Test/ToyasCard.lean, 'card_holds'). Laid BY PROGRAM, IN A SANDBOX (cutbox-door.mjs). By AI agents, Wed Nov 11 2026. No macro, syntax, notation, axiom, sorry.
-/
import Derived.Test.YtecacjddggljgaaDoorRows
import GoSem.ClaimSeven
namespace Go.Proofs.YtecacjddggljgaaDoor
namespace Rows

/-- THE TIED CARD OF 'marlstonelaw12.SeekProves'. -/
def seekProvesCard : Claim7 := { stood := { row := seekProvesRow, standIns := [], harness := (true, "62cdb63f527a011053e881740caf8f56d6a68667533956bfe4d4ea2ab16cfb5d"), looks := true }, kinds := [], alts := [], laidByText := true, laidKinds := [.data], laidTests := true, laidLooks := .later }
def SeekProvesCardSaid : Prop := Claim7.holds Tryd.pinned (.plain (OpenSpec.ofChange seekProvesSpec)) seekProvesCard

/-- THE TIED CARD OF 'marlstonelaw12.SeekChecks'. -/
def seekChecksCard : Claim7 := { stood := { row := seekChecksRow, standIns := [], harness := (true, "62cdb63f527a011053e881740caf8f56d6a68667533956bfe4d4ea2ab16cfb5d"), looks := true }, kinds := [], alts := [], laidByText := true, laidKinds := [.data], laidTests := true, laidLooks := .later }
def SeekChecksCardSaid : Prop := Claim7.holds Tryd.pinned (.plain (OpenSpec.ofChange seekChecksSpec)) seekChecksCard

/-- THE TIED CARD OF 'marlstonelaw12.SeekBack'. -/
def seekBackCard : Claim7 := { stood := { row := seekBackRow, standIns := [], harness := (true, "62cdb63f527a011053e881740caf8f56d6a68667533956bfe4d4ea2ab16cfb5d"), looks := true }, kinds := [], alts := [], laidByText := true, laidKinds := [.data], laidTests := true, laidLooks := .later }
def SeekBackCardSaid : Prop := Claim7.holds Tryd.pinned (.plain (OpenSpec.ofChange seekBackSpec)) seekBackCard

/-- THE TIED CARD OF 'marlstonelaw12.SeekSound'. -/
def seekSoundCard : Claim7 := { stood := { row := seekSoundRow, standIns := [], harness := (true, "62cdb63f527a011053e881740caf8f56d6a68667533956bfe4d4ea2ab16cfb5d"), looks := true }, kinds := [], alts := [], laidByText := true, laidKinds := [.data], laidTests := true, laidLooks := .later }
def SeekSoundCardSaid : Prop := Claim7.holds Tryd.pinned (.plain (OpenSpec.ofChange seekSoundSpec)) seekSoundCard

/-- THE TIED CARD OF 'marlstonelaw12.SeekSpans'. -/
def seekSpansCard : Claim7 := { stood := { row := seekSpansRow, standIns := [], harness := (true, "62cdb63f527a011053e881740caf8f56d6a68667533956bfe4d4ea2ab16cfb5d"), looks := true }, kinds := [], alts := [], laidByText := true, laidKinds := [.data], laidTests := true, laidLooks := .later }
def SeekSpansCardSaid : Prop := Claim7.holds Tryd.pinned (.plain (OpenSpec.ofChange seekSpansSpec)) seekSpansCard

/-- THE TIED CARD OF 'marlstonelaw12.SeekOther'. -/
def seekOtherCard : Claim7 := { stood := { row := seekOtherRow, standIns := [], harness := (true, "62cdb63f527a011053e881740caf8f56d6a68667533956bfe4d4ea2ab16cfb5d"), looks := true }, kinds := [], alts := [], laidByText := true, laidKinds := [.data], laidTests := true, laidLooks := .later }
def SeekOtherCardSaid : Prop := Claim7.holds Tryd.pinned (.plain (OpenSpec.ofChange seekOtherSpec)) seekOtherCard

/-- THE TIED CARD OF 'marlstonelaw12.SeekWhole'. -/
def seekWholeCard : Claim7 := { stood := { row := seekWholeRow, standIns := [], harness := (true, "62cdb63f527a011053e881740caf8f56d6a68667533956bfe4d4ea2ab16cfb5d"), looks := true }, kinds := [], alts := [], laidByText := true, laidKinds := [.data], laidTests := true, laidLooks := .later }
def SeekWholeCardSaid : Prop := Claim7.holds Tryd.pinned (.plain (OpenSpec.ofChange seekWholeSpec)) seekWholeCard

/-- THE SECOND FORM's CARD OF 'marlstonelaw12.SeekProves'. -/
def seekProvesUptoCard : Claim7 := { stood := { row := seekProvesUptoRow, standIns := [], harness := (true, "62cdb63f527a011053e881740caf8f56d6a68667533956bfe4d4ea2ab16cfb5d"), looks := true }, kinds := [], alts := [], laidByText := true, laidKinds := [.data], laidTests := true, laidLooks := .later }
def SeekProvesUptoCardSaid : Prop := Claim7.holds Tryd.pinned (.plain (OpenSpec.upto seekProvesSpec)) seekProvesUptoCard

/-- THE SECOND FORM's CARD OF 'marlstonelaw12.SeekChecks'. -/
def seekChecksUptoCard : Claim7 := { stood := { row := seekChecksUptoRow, standIns := [], harness := (true, "62cdb63f527a011053e881740caf8f56d6a68667533956bfe4d4ea2ab16cfb5d"), looks := true }, kinds := [], alts := [], laidByText := true, laidKinds := [.data], laidTests := true, laidLooks := .later }
def SeekChecksUptoCardSaid : Prop := Claim7.holds Tryd.pinned (.plain (OpenSpec.upto seekChecksSpec)) seekChecksUptoCard

/-- THE SECOND FORM's CARD OF 'marlstonelaw12.SeekBack'. -/
def seekBackUptoCard : Claim7 := { stood := { row := seekBackUptoRow, standIns := [], harness := (true, "62cdb63f527a011053e881740caf8f56d6a68667533956bfe4d4ea2ab16cfb5d"), looks := true }, kinds := [], alts := [], laidByText := true, laidKinds := [.data], laidTests := true, laidLooks := .later }
def SeekBackUptoCardSaid : Prop := Claim7.holds Tryd.pinned (.plain (OpenSpec.upto seekBackSpec)) seekBackUptoCard

/-- THE SECOND FORM's CARD OF 'marlstonelaw12.SeekSound'. -/
def seekSoundUptoCard : Claim7 := { stood := { row := seekSoundUptoRow, standIns := [], harness := (true, "62cdb63f527a011053e881740caf8f56d6a68667533956bfe4d4ea2ab16cfb5d"), looks := true }, kinds := [], alts := [], laidByText := true, laidKinds := [.data], laidTests := true, laidLooks := .later }
def SeekSoundUptoCardSaid : Prop := Claim7.holds Tryd.pinned (.plain (OpenSpec.upto seekSoundSpec)) seekSoundUptoCard

/-- THE SECOND FORM's CARD OF 'marlstonelaw12.SeekSpans'. -/
def seekSpansUptoCard : Claim7 := { stood := { row := seekSpansUptoRow, standIns := [], harness := (true, "62cdb63f527a011053e881740caf8f56d6a68667533956bfe4d4ea2ab16cfb5d"), looks := true }, kinds := [], alts := [], laidByText := true, laidKinds := [.data], laidTests := true, laidLooks := .later }
def SeekSpansUptoCardSaid : Prop := Claim7.holds Tryd.pinned (.plain (OpenSpec.upto seekSpansSpec)) seekSpansUptoCard

/-- THE SECOND FORM's CARD OF 'marlstonelaw12.SeekOther'. -/
def seekOtherUptoCard : Claim7 := { stood := { row := seekOtherUptoRow, standIns := [], harness := (true, "62cdb63f527a011053e881740caf8f56d6a68667533956bfe4d4ea2ab16cfb5d"), looks := true }, kinds := [], alts := [], laidByText := true, laidKinds := [.data], laidTests := true, laidLooks := .later }
def SeekOtherUptoCardSaid : Prop := Claim7.holds Tryd.pinned (.plain (OpenSpec.upto seekOtherSpec)) seekOtherUptoCard

/-- THE SECOND FORM's CARD OF 'marlstonelaw12.SeekWhole'. -/
def seekWholeUptoCard : Claim7 := { stood := { row := seekWholeUptoRow, standIns := [], harness := (true, "62cdb63f527a011053e881740caf8f56d6a68667533956bfe4d4ea2ab16cfb5d"), looks := true }, kinds := [], alts := [], laidByText := true, laidKinds := [.data], laidTests := true, laidLooks := .later }
def SeekWholeUptoCardSaid : Prop := Claim7.holds Tryd.pinned (.plain (OpenSpec.upto seekWholeSpec)) seekWholeUptoCard
end Rows
end Go.Proofs.YtecacjddggljgaaDoor
