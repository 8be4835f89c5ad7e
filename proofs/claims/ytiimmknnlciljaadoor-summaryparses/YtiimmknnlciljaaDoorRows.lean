/-
  NARROWER THAN 'FOR EVERY INPUT', by the rows' own cells (each row's printed sentence says how): SummaryBytes: laid · SummaryParses: laid · SummaryPlaces: laid · SummaryBack: laid · SummaryOnce: laid · SummaryLevels: laid · SummaryParts: laid · SummaryAlone: laid.
  DERIVED. THE GIVEN ROWS OF THIS SEAT. 8 by the template 'for every input the law returns true; each argument reads behind the call as it read before'; 0 by the template 'total and deterministic' (their statements: YtiimmknnlciljaaDoorTotals.lean).
  GIVEN WITH THE SEED: the statements are not yours to turn. If you find one false, say at which input.
  Laid BY PROGRAM, IN A SANDBOX (cutbox-rows.mjs): the forced cells as the released guide's own fill.sh prints them over the translation bb81ce054a52c3ea… (all of the seat's roots in one cut). By AI agents, Wed Nov 11 2026. No macro, syntax, notation, axiom, sorry.
-/
import Derived.Test.YtiimmknnlciljaaDoorChecked
import GoSem.Claim
import GoSem.ClaimJoined
import GoSem.ClaimMapViews
import Derived.JoinedTies
import Derived.KernelRfl
namespace Go.Proofs.YtiimmknnlciljaaDoor
/- THE CELL 'sum', in the pinned program and in every row, IS THE sha256 OF THE DUMP (.gsa) THAT YtiimmknnlciljaaDoorProg.lean LOADS. Nothing in Lean hashes anything: it is a label: what it is worth is what the hold of that sum in a sandbox is worth. -/
noncomputable def Tryd.pinned : Pinned := { name := "ytiimmknnlciljaadoor", sum := "bb81ce054a52c3ea147a596b0000925234663f5be563e069669823bf1390f92a", checked := Tryd.checked }
namespace Rows
def none {H : Type} : Left H := { results := [], args := [] }

/- WHAT THE LISTED PACKAGE-LEVEL VARIABLES READ AS WHEN THE CALL BEGINS. Each datum BY PROGRAM (the guide's laid-datum.mjs) off the statement by which the dump's own 'gosem.cut.vars' lays the variable. In a bare row this is a premise. The card (YtiimmknnlciljaaDoorCards.lean) ties it to the program's text. -/
def laid_marlstone_sum_cubeRoots {H : Type} : DataW H := .agg [.lit (.int .u32 1116352408), .lit (.int .u32 1899447441), .lit (.int .u32 3049323471), .lit (.int .u32 3921009573), .lit (.int .u32 961987163), .lit (.int .u32 1508970993), .lit (.int .u32 2453635748), .lit (.int .u32 2870763221), .lit (.int .u32 3624381080), .lit (.int .u32 310598401), .lit (.int .u32 607225278), .lit (.int .u32 1426881987), .lit (.int .u32 1925078388), .lit (.int .u32 2162078206), .lit (.int .u32 2614888103), .lit (.int .u32 3248222580), .lit (.int .u32 3835390401), .lit (.int .u32 4022224774), .lit (.int .u32 264347078), .lit (.int .u32 604807628), .lit (.int .u32 770255983), .lit (.int .u32 1249150122), .lit (.int .u32 1555081692), .lit (.int .u32 1996064986), .lit (.int .u32 2554220882), .lit (.int .u32 2821834349), .lit (.int .u32 2952996808), .lit (.int .u32 3210313671), .lit (.int .u32 3336571891), .lit (.int .u32 3584528711), .lit (.int .u32 113926993), .lit (.int .u32 338241895), .lit (.int .u32 666307205), .lit (.int .u32 773529912), .lit (.int .u32 1294757372), .lit (.int .u32 1396182291), .lit (.int .u32 1695183700), .lit (.int .u32 1986661051), .lit (.int .u32 2177026350), .lit (.int .u32 2456956037), .lit (.int .u32 2730485921), .lit (.int .u32 2820302411), .lit (.int .u32 3259730800), .lit (.int .u32 3345764771), .lit (.int .u32 3516065817), .lit (.int .u32 3600352804), .lit (.int .u32 4094571909), .lit (.int .u32 275423344), .lit (.int .u32 430227734), .lit (.int .u32 506948616), .lit (.int .u32 659060556), .lit (.int .u32 883997877), .lit (.int .u32 958139571), .lit (.int .u32 1322822218), .lit (.int .u32 1537002063), .lit (.int .u32 1747873779), .lit (.int .u32 1955562222), .lit (.int .u32 2024104815), .lit (.int .u32 2227730452), .lit (.int .u32 2361852424), .lit (.int .u32 2428436474), .lit (.int .u32 2756734187), .lit (.int .u32 3204031479), .lit (.int .u32 3329325298)]

/-- 'marlstonelaw14.SummaryBytes': WHATEVER THE INPUT: true; the input reads as it did. -/
def summaryBytesSpec : ChangeSpec := { name := "summaryBytes", fn := fun _ => fun
  | [d1, d2] => { results := [.lit (.bool true)], args := [d1, d2] }
  | _ => none }
def summaryBytesRow : OpenClaim := { program := "ytiimmknnlciljaadoor", sum := "bb81ce054a52c3ea147a596b0000925234663f5be563e069669823bf1390f92a", func := "marlstone/marlstonelaw14.SummaryBytes", spec := "summaryBytes", named := ["marlstone/sum.cubeRoots"], apart := false, laid := [("marlstone/sum.cubeRoots", laid_marlstone_sum_cubeRoots)] }
def SummaryBytesSaid : Prop := summaryBytesRow.holds Tryd.pinned (OpenSpec.ofChange summaryBytesSpec)

/-- ITS FALSE NEIGHBOUR: 'it returns false'. Refute it at one input. -/
def summaryBytesWrong : ChangeSpec := { name := "summaryBytes", fn := fun _ => fun
  | [d1, d2] => { results := [.lit (.bool false)], args := [d1, d2] }
  | _ => none }
def SummaryBytesWrongFalsely : Prop := summaryBytesRow.holds Tryd.pinned (OpenSpec.ofChange summaryBytesWrong)

/-- 'marlstonelaw14.SummaryParses': WHATEVER THE INPUT: true; the input reads as it did. -/
def summaryParsesSpec : ChangeSpec := { name := "summaryParses", fn := fun _ => fun
  | [d] => { results := [.lit (.bool true)], args := [d] }
  | _ => none }
def summaryParsesRow : OpenClaim := { program := "ytiimmknnlciljaadoor", sum := "bb81ce054a52c3ea147a596b0000925234663f5be563e069669823bf1390f92a", func := "marlstone/marlstonelaw14.SummaryParses", spec := "summaryParses", named := ["marlstone/sum.cubeRoots"], apart := false, laid := [("marlstone/sum.cubeRoots", laid_marlstone_sum_cubeRoots)] }
def SummaryParsesSaid : Prop := summaryParsesRow.holds Tryd.pinned (OpenSpec.ofChange summaryParsesSpec)

/-- ITS FALSE NEIGHBOUR: 'it returns false'. Refute it at one input. -/
def summaryParsesWrong : ChangeSpec := { name := "summaryParses", fn := fun _ => fun
  | [d] => { results := [.lit (.bool false)], args := [d] }
  | _ => none }
def SummaryParsesWrongFalsely : Prop := summaryParsesRow.holds Tryd.pinned (OpenSpec.ofChange summaryParsesWrong)

/-- 'marlstonelaw14.SummaryPlaces': WHATEVER THE INPUT: true; the input reads as it did. -/
def summaryPlacesSpec : ChangeSpec := { name := "summaryPlaces", fn := fun _ => fun
  | [d1, d2, d3] => { results := [.lit (.bool true)], args := [d1, d2, d3] }
  | _ => none }
def summaryPlacesRow : OpenClaim := { program := "ytiimmknnlciljaadoor", sum := "bb81ce054a52c3ea147a596b0000925234663f5be563e069669823bf1390f92a", func := "marlstone/marlstonelaw14.SummaryPlaces", spec := "summaryPlaces", unfollowed := true, recurses := true, named := ["marlstone/sum.cubeRoots"], apart := false, laid := [("marlstone/sum.cubeRoots", laid_marlstone_sum_cubeRoots)] }
def SummaryPlacesSaid : Prop := summaryPlacesRow.holds Tryd.pinned (OpenSpec.ofChange summaryPlacesSpec)

/-- ITS FALSE NEIGHBOUR: 'it returns false'. Refute it at one input. -/
def summaryPlacesWrong : ChangeSpec := { name := "summaryPlaces", fn := fun _ => fun
  | [d1, d2, d3] => { results := [.lit (.bool false)], args := [d1, d2, d3] }
  | _ => none }
def SummaryPlacesWrongFalsely : Prop := summaryPlacesRow.holds Tryd.pinned (OpenSpec.ofChange summaryPlacesWrong)

/-- 'marlstonelaw14.SummaryBack': WHATEVER THE INPUT: true; the input reads as it did. -/
def summaryBackSpec : ChangeSpec := { name := "summaryBack", fn := fun _ => fun
  | [d1, d2] => { results := [.lit (.bool true)], args := [d1, d2] }
  | _ => none }
def summaryBackRow : OpenClaim := { program := "ytiimmknnlciljaadoor", sum := "bb81ce054a52c3ea147a596b0000925234663f5be563e069669823bf1390f92a", func := "marlstone/marlstonelaw14.SummaryBack", spec := "summaryBack", named := ["marlstone/sum.cubeRoots"], apart := false, laid := [("marlstone/sum.cubeRoots", laid_marlstone_sum_cubeRoots)] }
def SummaryBackSaid : Prop := summaryBackRow.holds Tryd.pinned (OpenSpec.ofChange summaryBackSpec)

/-- ITS FALSE NEIGHBOUR: 'it returns false'. Refute it at one input. -/
def summaryBackWrong : ChangeSpec := { name := "summaryBack", fn := fun _ => fun
  | [d1, d2] => { results := [.lit (.bool false)], args := [d1, d2] }
  | _ => none }
def SummaryBackWrongFalsely : Prop := summaryBackRow.holds Tryd.pinned (OpenSpec.ofChange summaryBackWrong)

/-- 'marlstonelaw14.SummaryOnce': WHATEVER THE INPUT: true; the input reads as it did. -/
def summaryOnceSpec : ChangeSpec := { name := "summaryOnce", fn := fun _ => fun
  | [d] => { results := [.lit (.bool true)], args := [d] }
  | _ => none }
def summaryOnceRow : OpenClaim := { program := "ytiimmknnlciljaadoor", sum := "bb81ce054a52c3ea147a596b0000925234663f5be563e069669823bf1390f92a", func := "marlstone/marlstonelaw14.SummaryOnce", spec := "summaryOnce", named := ["marlstone/sum.cubeRoots"], apart := false, laid := [("marlstone/sum.cubeRoots", laid_marlstone_sum_cubeRoots)] }
def SummaryOnceSaid : Prop := summaryOnceRow.holds Tryd.pinned (OpenSpec.ofChange summaryOnceSpec)

/-- ITS FALSE NEIGHBOUR: 'it returns false'. Refute it at one input. -/
def summaryOnceWrong : ChangeSpec := { name := "summaryOnce", fn := fun _ => fun
  | [d] => { results := [.lit (.bool false)], args := [d] }
  | _ => none }
def SummaryOnceWrongFalsely : Prop := summaryOnceRow.holds Tryd.pinned (OpenSpec.ofChange summaryOnceWrong)

/-- 'marlstonelaw14.SummaryLevels': WHATEVER THE INPUT: true; the input reads as it did. -/
def summaryLevelsSpec : ChangeSpec := { name := "summaryLevels", fn := fun _ => fun
  | [d1, d2] => { results := [.lit (.bool true)], args := [d1, d2] }
  | _ => none }
def summaryLevelsRow : OpenClaim := { program := "ytiimmknnlciljaadoor", sum := "bb81ce054a52c3ea147a596b0000925234663f5be563e069669823bf1390f92a", func := "marlstone/marlstonelaw14.SummaryLevels", spec := "summaryLevels", unfollowed := true, recurses := true, named := ["marlstone/sum.cubeRoots"], apart := false, laid := [("marlstone/sum.cubeRoots", laid_marlstone_sum_cubeRoots)] }
def SummaryLevelsSaid : Prop := summaryLevelsRow.holds Tryd.pinned (OpenSpec.ofChange summaryLevelsSpec)

/-- ITS FALSE NEIGHBOUR: 'it returns false'. Refute it at one input. -/
def summaryLevelsWrong : ChangeSpec := { name := "summaryLevels", fn := fun _ => fun
  | [d1, d2] => { results := [.lit (.bool false)], args := [d1, d2] }
  | _ => none }
def SummaryLevelsWrongFalsely : Prop := summaryLevelsRow.holds Tryd.pinned (OpenSpec.ofChange summaryLevelsWrong)

/-- 'marlstonelaw14.SummaryParts': WHATEVER THE INPUT: true; the input reads as it did. -/
def summaryPartsSpec : ChangeSpec := { name := "summaryParts", fn := fun _ => fun
  | [d1, d2] => { results := [.lit (.bool true)], args := [d1, d2] }
  | _ => none }
def summaryPartsRow : OpenClaim := { program := "ytiimmknnlciljaadoor", sum := "bb81ce054a52c3ea147a596b0000925234663f5be563e069669823bf1390f92a", func := "marlstone/marlstonelaw14.SummaryParts", spec := "summaryParts", named := ["marlstone/sum.cubeRoots"], apart := false, laid := [("marlstone/sum.cubeRoots", laid_marlstone_sum_cubeRoots)] }
def SummaryPartsSaid : Prop := summaryPartsRow.holds Tryd.pinned (OpenSpec.ofChange summaryPartsSpec)

/-- ITS FALSE NEIGHBOUR: 'it returns false'. Refute it at one input. -/
def summaryPartsWrong : ChangeSpec := { name := "summaryParts", fn := fun _ => fun
  | [d1, d2] => { results := [.lit (.bool false)], args := [d1, d2] }
  | _ => none }
def SummaryPartsWrongFalsely : Prop := summaryPartsRow.holds Tryd.pinned (OpenSpec.ofChange summaryPartsWrong)

/-- 'marlstonelaw14.SummaryAlone': WHATEVER THE INPUT: true; the input reads as it did. -/
def summaryAloneSpec : ChangeSpec := { name := "summaryAlone", fn := fun _ => fun
  | [d] => { results := [.lit (.bool true)], args := [d] }
  | _ => none }
def summaryAloneRow : OpenClaim := { program := "ytiimmknnlciljaadoor", sum := "bb81ce054a52c3ea147a596b0000925234663f5be563e069669823bf1390f92a", func := "marlstone/marlstonelaw14.SummaryAlone", spec := "summaryAlone", named := ["marlstone/sum.cubeRoots"], apart := false, laid := [("marlstone/sum.cubeRoots", laid_marlstone_sum_cubeRoots)] }
def SummaryAloneSaid : Prop := summaryAloneRow.holds Tryd.pinned (OpenSpec.ofChange summaryAloneSpec)

/-- ITS FALSE NEIGHBOUR: 'it returns false'. Refute it at one input. -/
def summaryAloneWrong : ChangeSpec := { name := "summaryAlone", fn := fun _ => fun
  | [d] => { results := [.lit (.bool false)], args := [d] }
  | _ => none }
def SummaryAloneWrongFalsely : Prop := summaryAloneRow.holds Tryd.pinned (OpenSpec.ofChange summaryAloneWrong)

/- THE SECOND FORM. 'bulk': how many values and letters a reading holds, each counted each time it is reached (what is shared counts as often as it is met; a slice's spare places count too). A statement '..UptoSaid' is the law's where the arguments, and the package variables that the reading takes, are together of bulk at most 1048576: NARROWER than '..Said'. Prove '..Said' where nothing that the law and all that it calls make is longer than what came in: it says more and counts as full. Else prove '..UptoSaid'. A law counts once. -/
mutual
def uptoBulk {H : Type} : DataW H → Nat
  | .lit (.string bytes) => bytes.length + 1
  | .lit _ => 1
  | .nil => 1
  | .ptr d => uptoBulk d + 1
  | .slice elems spare => uptoBulkAll elems + uptoBulkAll spare + 1
  | .agg parts => uptoBulkAll parts + 1
  | .iface _ d => uptoBulk d + 1
  | .map entries => uptoBulkEntries entries + 1
  | .held _ => 1
def uptoBulkAll {H : Type} : List (DataW H) → Nat
  | [] => 0
  | d :: r => uptoBulk d + uptoBulkAll r
def uptoBulkEntries {H : Type} : List (Lit × DataW H) → Nat
  | [] => 0
  | x :: r => uptoBulkEntry x + uptoBulkEntries r
def uptoBulkEntry {H : Type} : Lit × DataW H → Nat
  | (.string bytes, d) => bytes.length + uptoBulk d + 1
  | (_, d) => uptoBulk d + 1
 end
def uptoSmall : (H : Type) → List (DataW H) → Bool := fun _ ds => decide (uptoBulkAll ds ≤ 1048576)
def OpenSpec.upto (s : _root_.Go.ChangeSpec) : _root_.Go.OpenSpec := { _root_.Go.OpenSpec.ofChange s with cond := some uptoSmall }

/-- 'marlstonelaw14.SummaryBytes', WHERE WHAT IT READS IS OF BULK AT MOST 1048576: true; the input reads as it did. -/
def summaryBytesUptoRow : OpenClaim := { program := "ytiimmknnlciljaadoor", sum := "bb81ce054a52c3ea147a596b0000925234663f5be563e069669823bf1390f92a", func := "marlstone/marlstonelaw14.SummaryBytes", spec := "summaryBytes", named := ["marlstone/sum.cubeRoots"], apart := false, laid := [("marlstone/sum.cubeRoots", laid_marlstone_sum_cubeRoots)], narrowed := true }
def SummaryBytesUptoSaid : Prop := summaryBytesUptoRow.holds Tryd.pinned (OpenSpec.upto summaryBytesSpec)

/-- 'marlstonelaw14.SummaryParses', WHERE WHAT IT READS IS OF BULK AT MOST 1048576: true; the input reads as it did. -/
def summaryParsesUptoRow : OpenClaim := { program := "ytiimmknnlciljaadoor", sum := "bb81ce054a52c3ea147a596b0000925234663f5be563e069669823bf1390f92a", func := "marlstone/marlstonelaw14.SummaryParses", spec := "summaryParses", named := ["marlstone/sum.cubeRoots"], apart := false, laid := [("marlstone/sum.cubeRoots", laid_marlstone_sum_cubeRoots)], narrowed := true }
def SummaryParsesUptoSaid : Prop := summaryParsesUptoRow.holds Tryd.pinned (OpenSpec.upto summaryParsesSpec)

/-- 'marlstonelaw14.SummaryPlaces', WHERE WHAT IT READS IS OF BULK AT MOST 1048576: true; the input reads as it did. -/
def summaryPlacesUptoRow : OpenClaim := { program := "ytiimmknnlciljaadoor", sum := "bb81ce054a52c3ea147a596b0000925234663f5be563e069669823bf1390f92a", func := "marlstone/marlstonelaw14.SummaryPlaces", spec := "summaryPlaces", unfollowed := true, recurses := true, named := ["marlstone/sum.cubeRoots"], apart := false, laid := [("marlstone/sum.cubeRoots", laid_marlstone_sum_cubeRoots)], narrowed := true }
def SummaryPlacesUptoSaid : Prop := summaryPlacesUptoRow.holds Tryd.pinned (OpenSpec.upto summaryPlacesSpec)

/-- 'marlstonelaw14.SummaryBack', WHERE WHAT IT READS IS OF BULK AT MOST 1048576: true; the input reads as it did. -/
def summaryBackUptoRow : OpenClaim := { program := "ytiimmknnlciljaadoor", sum := "bb81ce054a52c3ea147a596b0000925234663f5be563e069669823bf1390f92a", func := "marlstone/marlstonelaw14.SummaryBack", spec := "summaryBack", named := ["marlstone/sum.cubeRoots"], apart := false, laid := [("marlstone/sum.cubeRoots", laid_marlstone_sum_cubeRoots)], narrowed := true }
def SummaryBackUptoSaid : Prop := summaryBackUptoRow.holds Tryd.pinned (OpenSpec.upto summaryBackSpec)

/-- 'marlstonelaw14.SummaryOnce', WHERE WHAT IT READS IS OF BULK AT MOST 1048576: true; the input reads as it did. -/
def summaryOnceUptoRow : OpenClaim := { program := "ytiimmknnlciljaadoor", sum := "bb81ce054a52c3ea147a596b0000925234663f5be563e069669823bf1390f92a", func := "marlstone/marlstonelaw14.SummaryOnce", spec := "summaryOnce", named := ["marlstone/sum.cubeRoots"], apart := false, laid := [("marlstone/sum.cubeRoots", laid_marlstone_sum_cubeRoots)], narrowed := true }
def SummaryOnceUptoSaid : Prop := summaryOnceUptoRow.holds Tryd.pinned (OpenSpec.upto summaryOnceSpec)

/-- 'marlstonelaw14.SummaryLevels', WHERE WHAT IT READS IS OF BULK AT MOST 1048576: true; the input reads as it did. -/
def summaryLevelsUptoRow : OpenClaim := { program := "ytiimmknnlciljaadoor", sum := "bb81ce054a52c3ea147a596b0000925234663f5be563e069669823bf1390f92a", func := "marlstone/marlstonelaw14.SummaryLevels", spec := "summaryLevels", unfollowed := true, recurses := true, named := ["marlstone/sum.cubeRoots"], apart := false, laid := [("marlstone/sum.cubeRoots", laid_marlstone_sum_cubeRoots)], narrowed := true }
def SummaryLevelsUptoSaid : Prop := summaryLevelsUptoRow.holds Tryd.pinned (OpenSpec.upto summaryLevelsSpec)

/-- 'marlstonelaw14.SummaryParts', WHERE WHAT IT READS IS OF BULK AT MOST 1048576: true; the input reads as it did. -/
def summaryPartsUptoRow : OpenClaim := { program := "ytiimmknnlciljaadoor", sum := "bb81ce054a52c3ea147a596b0000925234663f5be563e069669823bf1390f92a", func := "marlstone/marlstonelaw14.SummaryParts", spec := "summaryParts", named := ["marlstone/sum.cubeRoots"], apart := false, laid := [("marlstone/sum.cubeRoots", laid_marlstone_sum_cubeRoots)], narrowed := true }
def SummaryPartsUptoSaid : Prop := summaryPartsUptoRow.holds Tryd.pinned (OpenSpec.upto summaryPartsSpec)

/-- 'marlstonelaw14.SummaryAlone', WHERE WHAT IT READS IS OF BULK AT MOST 1048576: true; the input reads as it did. -/
def summaryAloneUptoRow : OpenClaim := { program := "ytiimmknnlciljaadoor", sum := "bb81ce054a52c3ea147a596b0000925234663f5be563e069669823bf1390f92a", func := "marlstone/marlstonelaw14.SummaryAlone", spec := "summaryAlone", named := ["marlstone/sum.cubeRoots"], apart := false, laid := [("marlstone/sum.cubeRoots", laid_marlstone_sum_cubeRoots)], narrowed := true }
def SummaryAloneUptoSaid : Prop := summaryAloneUptoRow.holds Tryd.pinned (OpenSpec.upto summaryAloneSpec)

end Rows
end Go.Proofs.YtiimmknnlciljaaDoor
