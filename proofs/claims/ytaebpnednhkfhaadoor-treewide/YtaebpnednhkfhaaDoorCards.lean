/-
  DERIVED. GIVEN WITH THE SEED: THE CARDS: each row of YtaebpnednhkfhaaDoorRows.lean that lists a variable, with what it lists TIED to the program's text (the seventh form; the later family's looks); each row that meets fmt, with fmt's text TOLD by the authors' own Lean function (tested against real Go, not proved from fmt's source: count such statements apart). THE CARD IS WHAT COUNTS. Prove the row's statement (the work); the ties are given (YtaebpnednhkfhaaDoorTie.lean); close each card by the builder's one call (the guide's Derived/Test/ToyasCard.lean, 'card_holds'). Laid BY PROGRAM, IN A SANDBOX (cutbox-door.mjs). By AI agents, Wed Nov 11 2026. No macro, syntax, notation, axiom, sorry.
-/
import Derived.Test.YtaebpnednhkfhaaDoorRows
import GoSem.ClaimSeven
namespace Go.Proofs.YtaebpnednhkfhaaDoor
namespace Rows

/-- THE TIED CARD OF 'marlstonelaw05.TreeRoots'. -/
def treeRootsCard : Claim7 := { stood := { row := treeRootsRow, standIns := [], harness := (true, "ef73b22df606d2f9f62766d944acd949b704f06f9f41d5c49b3f997bbad36963"), looks := true }, kinds := [], alts := [], laidByText := true, laidKinds := [.data], laidTests := true, laidLooks := .later }
def TreeRootsCardSaid : Prop := Claim7.holds Tryd.pinned (.plain (OpenSpec.ofChange treeRootsSpec)) treeRootsCard

/-- THE TIED CARD OF 'marlstonelaw05.TreePaths'. -/
def treePathsCard : Claim7 := { stood := { row := treePathsRow, standIns := [], harness := (true, "ef73b22df606d2f9f62766d944acd949b704f06f9f41d5c49b3f997bbad36963"), looks := true }, kinds := [], alts := [], laidByText := true, laidKinds := [.data], laidTests := true, laidLooks := .later }
def TreePathsCardSaid : Prop := Claim7.holds Tryd.pinned (.plain (OpenSpec.ofChange treePathsSpec)) treePathsCard

/-- THE TIED CARD OF 'marlstonelaw05.TreeChecks'. -/
def treeChecksCard : Claim7 := { stood := { row := treeChecksRow, standIns := [], harness := (true, "ef73b22df606d2f9f62766d944acd949b704f06f9f41d5c49b3f997bbad36963"), looks := true }, kinds := [], alts := [], laidByText := true, laidKinds := [.data], laidTests := true, laidLooks := .later }
def TreeChecksCardSaid : Prop := Claim7.holds Tryd.pinned (.plain (OpenSpec.ofChange treeChecksSpec)) treeChecksCard

/-- THE TIED CARD OF 'marlstonelaw05.TreeCheckRanges'. -/
def treeCheckRangesCard : Claim7 := { stood := { row := treeCheckRangesRow, standIns := [], harness := (true, "ef73b22df606d2f9f62766d944acd949b704f06f9f41d5c49b3f997bbad36963"), looks := true }, kinds := [], alts := [], laidByText := true, laidKinds := [.data], laidTests := true, laidLooks := .later }
def TreeCheckRangesCardSaid : Prop := Claim7.holds Tryd.pinned (.plain (OpenSpec.ofChange treeCheckRangesSpec)) treeCheckRangesCard

/-- THE TIED CARD OF 'marlstonelaw05.TreeProves'. -/
def treeProvesCard : Claim7 := { stood := { row := treeProvesRow, standIns := [], harness := (true, "ef73b22df606d2f9f62766d944acd949b704f06f9f41d5c49b3f997bbad36963"), looks := true }, kinds := [], alts := [], laidByText := true, laidKinds := [.data], laidTests := true, laidLooks := .later }
def TreeProvesCardSaid : Prop := Claim7.holds Tryd.pinned (.plain (OpenSpec.ofChange treeProvesSpec)) treeProvesCard

/-- THE TIED CARD OF 'marlstonelaw05.TreeShort'. -/
def treeShortCard : Claim7 := { stood := { row := treeShortRow, standIns := [], harness := (true, "ef73b22df606d2f9f62766d944acd949b704f06f9f41d5c49b3f997bbad36963"), looks := true }, kinds := [], alts := [], laidByText := true, laidKinds := [.data], laidTests := true, laidLooks := .later }
def TreeShortCardSaid : Prop := Claim7.holds Tryd.pinned (.plain (OpenSpec.ofChange treeShortSpec)) treeShortCard

/-- THE TIED CARD OF 'marlstonelaw05.TreeSplits'. -/
def treeSplitsCard : Claim7 := { stood := { row := treeSplitsRow, standIns := [], harness := (true, "ef73b22df606d2f9f62766d944acd949b704f06f9f41d5c49b3f997bbad36963"), looks := true }, kinds := [], alts := [], laidByText := true, laidKinds := [.data], laidTests := true, laidLooks := .later }
def TreeSplitsCardSaid : Prop := Claim7.holds Tryd.pinned (.plain (OpenSpec.ofChange treeSplitsSpec)) treeSplitsCard

/-- THE TIED CARD OF 'marlstonelaw05.TreeWide'. -/
def treeWideCard : Claim7 := { stood := { row := treeWideRow, standIns := [], harness := (true, "ef73b22df606d2f9f62766d944acd949b704f06f9f41d5c49b3f997bbad36963"), looks := true }, kinds := [], alts := [], laidByText := true, laidKinds := [.data], laidTests := true, laidLooks := .later }
def TreeWideCardSaid : Prop := Claim7.holds Tryd.pinned (.plain (OpenSpec.ofChange treeWideSpec)) treeWideCard

/-- THE TIED CARD OF 'marlstonelaw05.TreeWhole'. -/
def treeWholeCard : Claim7 := { stood := { row := treeWholeRow, standIns := [], harness := (true, "ef73b22df606d2f9f62766d944acd949b704f06f9f41d5c49b3f997bbad36963"), looks := true }, kinds := [], alts := [], laidByText := true, laidKinds := [.data], laidTests := true, laidLooks := .later }
def TreeWholeCardSaid : Prop := Claim7.holds Tryd.pinned (.plain (OpenSpec.ofChange treeWholeSpec)) treeWholeCard

/-- THE TIED CARD OF 'marlstonelaw05.TreeDepth'. -/
def treeDepthCard : Claim7 := { stood := { row := treeDepthRow, standIns := [], harness := (true, "ef73b22df606d2f9f62766d944acd949b704f06f9f41d5c49b3f997bbad36963"), looks := true }, kinds := [], alts := [], laidByText := true, laidKinds := [.data], laidTests := true, laidLooks := .later }
def TreeDepthCardSaid : Prop := Claim7.holds Tryd.pinned (.plain (OpenSpec.ofChange treeDepthSpec)) treeDepthCard

/-- THE TIED CARD OF 'marlstonelaw06.ClashOpens'. -/
def clashOpensCard : Claim7 := { stood := { row := clashOpensRow, standIns := [], harness := (true, "ef73b22df606d2f9f62766d944acd949b704f06f9f41d5c49b3f997bbad36963"), looks := true }, kinds := [], alts := [], laidByText := true, laidKinds := [.data], laidTests := true, laidLooks := .later }
def ClashOpensCardSaid : Prop := Claim7.holds Tryd.pinned (.plain (OpenSpec.ofChange clashOpensSpec)) clashOpensCard

/-- THE TIED CARD OF 'marlstonelaw06.ClashParts'. -/
def clashPartsCard : Claim7 := { stood := { row := clashPartsRow, standIns := [], harness := (true, "ef73b22df606d2f9f62766d944acd949b704f06f9f41d5c49b3f997bbad36963"), looks := true }, kinds := [], alts := [], laidByText := true, laidKinds := [.data], laidTests := true, laidLooks := .later }
def ClashPartsCardSaid : Prop := Claim7.holds Tryd.pinned (.plain (OpenSpec.ofChange clashPartsSpec)) clashPartsCard

/-- THE TIED CARD OF 'marlstonelaw06.ClashSound'. -/
def clashSoundCard : Claim7 := { stood := { row := clashSoundRow, standIns := [], harness := (true, "ef73b22df606d2f9f62766d944acd949b704f06f9f41d5c49b3f997bbad36963"), looks := true }, kinds := [], alts := [], laidByText := true, laidKinds := [.data], laidTests := true, laidLooks := .later }
def ClashSoundCardSaid : Prop := Claim7.holds Tryd.pinned (.plain (OpenSpec.ofChange clashSoundSpec)) clashSoundCard

/-- THE TIED CARD OF 'marlstonelaw06.ClashWhole'. -/
def clashWholeCard : Claim7 := { stood := { row := clashWholeRow, standIns := [], harness := (true, "ef73b22df606d2f9f62766d944acd949b704f06f9f41d5c49b3f997bbad36963"), looks := true }, kinds := [], alts := [], laidByText := true, laidKinds := [.data], laidTests := true, laidLooks := .later }
def ClashWholeCardSaid : Prop := Claim7.holds Tryd.pinned (.plain (OpenSpec.ofChange clashWholeSpec)) clashWholeCard

/-- THE TIED CARD OF 'marlstonelaw06.ClashLists'. -/
def clashListsCard : Claim7 := { stood := { row := clashListsRow, standIns := [], harness := (true, "ef73b22df606d2f9f62766d944acd949b704f06f9f41d5c49b3f997bbad36963"), looks := true }, kinds := [], alts := [], laidByText := true, laidKinds := [.data], laidTests := true, laidLooks := .later }
def ClashListsCardSaid : Prop := Claim7.holds Tryd.pinned (.plain (OpenSpec.ofChange clashListsSpec)) clashListsCard

/-- THE TIED CARD OF 'marlstonelaw06.ClashTurned'. -/
def clashTurnedCard : Claim7 := { stood := { row := clashTurnedRow, standIns := [], harness := (true, "ef73b22df606d2f9f62766d944acd949b704f06f9f41d5c49b3f997bbad36963"), looks := true }, kinds := [], alts := [], laidByText := true, laidKinds := [.data], laidTests := true, laidLooks := .later }
def ClashTurnedCardSaid : Prop := Claim7.holds Tryd.pinned (.plain (OpenSpec.ofChange clashTurnedSpec)) clashTurnedCard

/-- THE TIED CARD OF 'marlstonelaw06.ClashNone'. -/
def clashNoneCard : Claim7 := { stood := { row := clashNoneRow, standIns := [], harness := (true, "ef73b22df606d2f9f62766d944acd949b704f06f9f41d5c49b3f997bbad36963"), looks := true }, kinds := [], alts := [], laidByText := true, laidKinds := [.data], laidTests := true, laidLooks := .later }
def ClashNoneCardSaid : Prop := Claim7.holds Tryd.pinned (.plain (OpenSpec.ofChange clashNoneSpec)) clashNoneCard

/-- THE SECOND FORM's CARD OF 'marlstonelaw05.TreeRoots'. -/
def treeRootsUptoCard : Claim7 := { stood := { row := treeRootsUptoRow, standIns := [], harness := (true, "ef73b22df606d2f9f62766d944acd949b704f06f9f41d5c49b3f997bbad36963"), looks := true }, kinds := [], alts := [], laidByText := true, laidKinds := [.data], laidTests := true, laidLooks := .later }
def TreeRootsUptoCardSaid : Prop := Claim7.holds Tryd.pinned (.plain (OpenSpec.upto treeRootsSpec)) treeRootsUptoCard

/-- THE SECOND FORM's CARD OF 'marlstonelaw05.TreePaths'. -/
def treePathsUptoCard : Claim7 := { stood := { row := treePathsUptoRow, standIns := [], harness := (true, "ef73b22df606d2f9f62766d944acd949b704f06f9f41d5c49b3f997bbad36963"), looks := true }, kinds := [], alts := [], laidByText := true, laidKinds := [.data], laidTests := true, laidLooks := .later }
def TreePathsUptoCardSaid : Prop := Claim7.holds Tryd.pinned (.plain (OpenSpec.upto treePathsSpec)) treePathsUptoCard

/-- THE SECOND FORM's CARD OF 'marlstonelaw05.TreeChecks'. -/
def treeChecksUptoCard : Claim7 := { stood := { row := treeChecksUptoRow, standIns := [], harness := (true, "ef73b22df606d2f9f62766d944acd949b704f06f9f41d5c49b3f997bbad36963"), looks := true }, kinds := [], alts := [], laidByText := true, laidKinds := [.data], laidTests := true, laidLooks := .later }
def TreeChecksUptoCardSaid : Prop := Claim7.holds Tryd.pinned (.plain (OpenSpec.upto treeChecksSpec)) treeChecksUptoCard

/-- THE SECOND FORM's CARD OF 'marlstonelaw05.TreeCheckRanges'. -/
def treeCheckRangesUptoCard : Claim7 := { stood := { row := treeCheckRangesUptoRow, standIns := [], harness := (true, "ef73b22df606d2f9f62766d944acd949b704f06f9f41d5c49b3f997bbad36963"), looks := true }, kinds := [], alts := [], laidByText := true, laidKinds := [.data], laidTests := true, laidLooks := .later }
def TreeCheckRangesUptoCardSaid : Prop := Claim7.holds Tryd.pinned (.plain (OpenSpec.upto treeCheckRangesSpec)) treeCheckRangesUptoCard

/-- THE SECOND FORM's CARD OF 'marlstonelaw05.TreeProves'. -/
def treeProvesUptoCard : Claim7 := { stood := { row := treeProvesUptoRow, standIns := [], harness := (true, "ef73b22df606d2f9f62766d944acd949b704f06f9f41d5c49b3f997bbad36963"), looks := true }, kinds := [], alts := [], laidByText := true, laidKinds := [.data], laidTests := true, laidLooks := .later }
def TreeProvesUptoCardSaid : Prop := Claim7.holds Tryd.pinned (.plain (OpenSpec.upto treeProvesSpec)) treeProvesUptoCard

/-- THE SECOND FORM's CARD OF 'marlstonelaw05.TreeShort'. -/
def treeShortUptoCard : Claim7 := { stood := { row := treeShortUptoRow, standIns := [], harness := (true, "ef73b22df606d2f9f62766d944acd949b704f06f9f41d5c49b3f997bbad36963"), looks := true }, kinds := [], alts := [], laidByText := true, laidKinds := [.data], laidTests := true, laidLooks := .later }
def TreeShortUptoCardSaid : Prop := Claim7.holds Tryd.pinned (.plain (OpenSpec.upto treeShortSpec)) treeShortUptoCard

/-- THE SECOND FORM's CARD OF 'marlstonelaw05.TreeSplits'. -/
def treeSplitsUptoCard : Claim7 := { stood := { row := treeSplitsUptoRow, standIns := [], harness := (true, "ef73b22df606d2f9f62766d944acd949b704f06f9f41d5c49b3f997bbad36963"), looks := true }, kinds := [], alts := [], laidByText := true, laidKinds := [.data], laidTests := true, laidLooks := .later }
def TreeSplitsUptoCardSaid : Prop := Claim7.holds Tryd.pinned (.plain (OpenSpec.upto treeSplitsSpec)) treeSplitsUptoCard

/-- THE SECOND FORM's CARD OF 'marlstonelaw05.TreeWide'. -/
def treeWideUptoCard : Claim7 := { stood := { row := treeWideUptoRow, standIns := [], harness := (true, "ef73b22df606d2f9f62766d944acd949b704f06f9f41d5c49b3f997bbad36963"), looks := true }, kinds := [], alts := [], laidByText := true, laidKinds := [.data], laidTests := true, laidLooks := .later }
def TreeWideUptoCardSaid : Prop := Claim7.holds Tryd.pinned (.plain (OpenSpec.upto treeWideSpec)) treeWideUptoCard

/-- THE SECOND FORM's CARD OF 'marlstonelaw05.TreeWhole'. -/
def treeWholeUptoCard : Claim7 := { stood := { row := treeWholeUptoRow, standIns := [], harness := (true, "ef73b22df606d2f9f62766d944acd949b704f06f9f41d5c49b3f997bbad36963"), looks := true }, kinds := [], alts := [], laidByText := true, laidKinds := [.data], laidTests := true, laidLooks := .later }
def TreeWholeUptoCardSaid : Prop := Claim7.holds Tryd.pinned (.plain (OpenSpec.upto treeWholeSpec)) treeWholeUptoCard

/-- THE SECOND FORM's CARD OF 'marlstonelaw05.TreeDepth'. -/
def treeDepthUptoCard : Claim7 := { stood := { row := treeDepthUptoRow, standIns := [], harness := (true, "ef73b22df606d2f9f62766d944acd949b704f06f9f41d5c49b3f997bbad36963"), looks := true }, kinds := [], alts := [], laidByText := true, laidKinds := [.data], laidTests := true, laidLooks := .later }
def TreeDepthUptoCardSaid : Prop := Claim7.holds Tryd.pinned (.plain (OpenSpec.upto treeDepthSpec)) treeDepthUptoCard

/-- THE SECOND FORM's CARD OF 'marlstonelaw06.ClashOpens'. -/
def clashOpensUptoCard : Claim7 := { stood := { row := clashOpensUptoRow, standIns := [], harness := (true, "ef73b22df606d2f9f62766d944acd949b704f06f9f41d5c49b3f997bbad36963"), looks := true }, kinds := [], alts := [], laidByText := true, laidKinds := [.data], laidTests := true, laidLooks := .later }
def ClashOpensUptoCardSaid : Prop := Claim7.holds Tryd.pinned (.plain (OpenSpec.upto clashOpensSpec)) clashOpensUptoCard

/-- THE SECOND FORM's CARD OF 'marlstonelaw06.ClashParts'. -/
def clashPartsUptoCard : Claim7 := { stood := { row := clashPartsUptoRow, standIns := [], harness := (true, "ef73b22df606d2f9f62766d944acd949b704f06f9f41d5c49b3f997bbad36963"), looks := true }, kinds := [], alts := [], laidByText := true, laidKinds := [.data], laidTests := true, laidLooks := .later }
def ClashPartsUptoCardSaid : Prop := Claim7.holds Tryd.pinned (.plain (OpenSpec.upto clashPartsSpec)) clashPartsUptoCard

/-- THE SECOND FORM's CARD OF 'marlstonelaw06.ClashSound'. -/
def clashSoundUptoCard : Claim7 := { stood := { row := clashSoundUptoRow, standIns := [], harness := (true, "ef73b22df606d2f9f62766d944acd949b704f06f9f41d5c49b3f997bbad36963"), looks := true }, kinds := [], alts := [], laidByText := true, laidKinds := [.data], laidTests := true, laidLooks := .later }
def ClashSoundUptoCardSaid : Prop := Claim7.holds Tryd.pinned (.plain (OpenSpec.upto clashSoundSpec)) clashSoundUptoCard

/-- THE SECOND FORM's CARD OF 'marlstonelaw06.ClashWhole'. -/
def clashWholeUptoCard : Claim7 := { stood := { row := clashWholeUptoRow, standIns := [], harness := (true, "ef73b22df606d2f9f62766d944acd949b704f06f9f41d5c49b3f997bbad36963"), looks := true }, kinds := [], alts := [], laidByText := true, laidKinds := [.data], laidTests := true, laidLooks := .later }
def ClashWholeUptoCardSaid : Prop := Claim7.holds Tryd.pinned (.plain (OpenSpec.upto clashWholeSpec)) clashWholeUptoCard

/-- THE SECOND FORM's CARD OF 'marlstonelaw06.ClashLists'. -/
def clashListsUptoCard : Claim7 := { stood := { row := clashListsUptoRow, standIns := [], harness := (true, "ef73b22df606d2f9f62766d944acd949b704f06f9f41d5c49b3f997bbad36963"), looks := true }, kinds := [], alts := [], laidByText := true, laidKinds := [.data], laidTests := true, laidLooks := .later }
def ClashListsUptoCardSaid : Prop := Claim7.holds Tryd.pinned (.plain (OpenSpec.upto clashListsSpec)) clashListsUptoCard

/-- THE SECOND FORM's CARD OF 'marlstonelaw06.ClashTurned'. -/
def clashTurnedUptoCard : Claim7 := { stood := { row := clashTurnedUptoRow, standIns := [], harness := (true, "ef73b22df606d2f9f62766d944acd949b704f06f9f41d5c49b3f997bbad36963"), looks := true }, kinds := [], alts := [], laidByText := true, laidKinds := [.data], laidTests := true, laidLooks := .later }
def ClashTurnedUptoCardSaid : Prop := Claim7.holds Tryd.pinned (.plain (OpenSpec.upto clashTurnedSpec)) clashTurnedUptoCard

/-- THE SECOND FORM's CARD OF 'marlstonelaw06.ClashNone'. -/
def clashNoneUptoCard : Claim7 := { stood := { row := clashNoneUptoRow, standIns := [], harness := (true, "ef73b22df606d2f9f62766d944acd949b704f06f9f41d5c49b3f997bbad36963"), looks := true }, kinds := [], alts := [], laidByText := true, laidKinds := [.data], laidTests := true, laidLooks := .later }
def ClashNoneUptoCardSaid : Prop := Claim7.holds Tryd.pinned (.plain (OpenSpec.upto clashNoneSpec)) clashNoneUptoCard
end Rows
end Go.Proofs.YtaebpnednhkfhaaDoor
