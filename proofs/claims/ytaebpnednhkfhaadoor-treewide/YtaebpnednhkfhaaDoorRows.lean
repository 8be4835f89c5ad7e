/-
  NARROWER THAN 'FOR EVERY INPUT', by the rows' own cells (each row's printed sentence says how): TreeRoots: laid · TreePaths: laid · TreeChecks: laid · TreeCheckRanges: laid · TreeProves: laid · TreeShort: laid · TreeSplits: laid · TreeWide: laid · TreeWhole: laid · TreeDepth: laid · ClashOpens: laid · ClashParts: laid · ClashSound: laid · ClashWhole: laid · ClashLists: laid · ClashTurned: laid · ClashNone: laid.
  DERIVED. THE GIVEN ROWS OF THIS SEAT. 17 by the template 'for every input the law returns true; each argument reads behind the call as it read before'; 0 by the template 'total and deterministic' (their statements: YtaebpnednhkfhaaDoorTotals.lean).
  GIVEN WITH THE SEED: the statements are not yours to turn. If you find one false, say at which input.
  Laid BY PROGRAM, IN A SANDBOX (cutbox-rows.mjs): the forced cells as the released guide's own fill.sh prints them over the translation 26f33e3bd1ad861b… (all of the seat's roots in one cut). By AI agents, Wed Nov 11 2026. No macro, syntax, notation, axiom, sorry.
-/
import Derived.Test.YtaebpnednhkfhaaDoorChecked
import GoSem.Claim
import GoSem.ClaimJoined
import GoSem.ClaimMapViews
import Derived.JoinedTies
import Derived.KernelRfl
namespace Go.Proofs.YtaebpnednhkfhaaDoor
/- THE CELL 'sum', in the pinned program and in every row, IS THE sha256 OF THE DUMP (.gsa) THAT YtaebpnednhkfhaaDoorProg.lean LOADS. Nothing in Lean hashes anything: it is a label: what it is worth is what the hold of that sum in a sandbox is worth. -/
noncomputable def Tryd.pinned : Pinned := { name := "ytaebpnednhkfhaadoor", sum := "26f33e3bd1ad861b6be0f70ff650915875aa3a078bec8a343432f1a364173a33", checked := Tryd.checked }
namespace Rows
def none {H : Type} : Left H := { results := [], args := [] }

/- WHAT THE LISTED PACKAGE-LEVEL VARIABLES READ AS WHEN THE CALL BEGINS. Each datum BY PROGRAM (the guide's laid-datum.mjs) off the statement by which the dump's own 'gosem.cut.vars' lays the variable. In a bare row this is a premise. The card (YtaebpnednhkfhaaDoorCards.lean) ties it to the program's text. -/
def laid_marlstone_sum_cubeRoots {H : Type} : DataW H := .agg [.lit (.int .u32 1116352408), .lit (.int .u32 1899447441), .lit (.int .u32 3049323471), .lit (.int .u32 3921009573), .lit (.int .u32 961987163), .lit (.int .u32 1508970993), .lit (.int .u32 2453635748), .lit (.int .u32 2870763221), .lit (.int .u32 3624381080), .lit (.int .u32 310598401), .lit (.int .u32 607225278), .lit (.int .u32 1426881987), .lit (.int .u32 1925078388), .lit (.int .u32 2162078206), .lit (.int .u32 2614888103), .lit (.int .u32 3248222580), .lit (.int .u32 3835390401), .lit (.int .u32 4022224774), .lit (.int .u32 264347078), .lit (.int .u32 604807628), .lit (.int .u32 770255983), .lit (.int .u32 1249150122), .lit (.int .u32 1555081692), .lit (.int .u32 1996064986), .lit (.int .u32 2554220882), .lit (.int .u32 2821834349), .lit (.int .u32 2952996808), .lit (.int .u32 3210313671), .lit (.int .u32 3336571891), .lit (.int .u32 3584528711), .lit (.int .u32 113926993), .lit (.int .u32 338241895), .lit (.int .u32 666307205), .lit (.int .u32 773529912), .lit (.int .u32 1294757372), .lit (.int .u32 1396182291), .lit (.int .u32 1695183700), .lit (.int .u32 1986661051), .lit (.int .u32 2177026350), .lit (.int .u32 2456956037), .lit (.int .u32 2730485921), .lit (.int .u32 2820302411), .lit (.int .u32 3259730800), .lit (.int .u32 3345764771), .lit (.int .u32 3516065817), .lit (.int .u32 3600352804), .lit (.int .u32 4094571909), .lit (.int .u32 275423344), .lit (.int .u32 430227734), .lit (.int .u32 506948616), .lit (.int .u32 659060556), .lit (.int .u32 883997877), .lit (.int .u32 958139571), .lit (.int .u32 1322822218), .lit (.int .u32 1537002063), .lit (.int .u32 1747873779), .lit (.int .u32 1955562222), .lit (.int .u32 2024104815), .lit (.int .u32 2227730452), .lit (.int .u32 2361852424), .lit (.int .u32 2428436474), .lit (.int .u32 2756734187), .lit (.int .u32 3204031479), .lit (.int .u32 3329325298)]

/-- 'marlstonelaw05.TreeRoots': WHATEVER THE INPUT: true; the input reads as it did. -/
def treeRootsSpec : ChangeSpec := { name := "treeRoots", fn := fun _ => fun
  | [d1, d2, d3, d4] => { results := [.lit (.bool true)], args := [d1, d2, d3, d4] }
  | _ => none }
def treeRootsRow : OpenClaim := { program := "ytaebpnednhkfhaadoor", sum := "26f33e3bd1ad861b6be0f70ff650915875aa3a078bec8a343432f1a364173a33", func := "marlstone/marlstonelaw05.TreeRoots", spec := "treeRoots", unfollowed := true, recurses := true, named := ["marlstone/sum.cubeRoots"], apart := false, laid := [("marlstone/sum.cubeRoots", laid_marlstone_sum_cubeRoots)] }
def TreeRootsSaid : Prop := treeRootsRow.holds Tryd.pinned (OpenSpec.ofChange treeRootsSpec)

/-- ITS FALSE NEIGHBOUR: 'it returns false'. Refute it at one input. -/
def treeRootsWrong : ChangeSpec := { name := "treeRoots", fn := fun _ => fun
  | [d1, d2, d3, d4] => { results := [.lit (.bool false)], args := [d1, d2, d3, d4] }
  | _ => none }
def TreeRootsWrongFalsely : Prop := treeRootsRow.holds Tryd.pinned (OpenSpec.ofChange treeRootsWrong)

/-- 'marlstonelaw05.TreePaths': WHATEVER THE INPUT: true; the input reads as it did. -/
def treePathsSpec : ChangeSpec := { name := "treePaths", fn := fun _ => fun
  | [d1, d2, d3, d4] => { results := [.lit (.bool true)], args := [d1, d2, d3, d4] }
  | _ => none }
def treePathsRow : OpenClaim := { program := "ytaebpnednhkfhaadoor", sum := "26f33e3bd1ad861b6be0f70ff650915875aa3a078bec8a343432f1a364173a33", func := "marlstone/marlstonelaw05.TreePaths", spec := "treePaths", unfollowed := true, recurses := true, named := ["marlstone/sum.cubeRoots"], apart := false, laid := [("marlstone/sum.cubeRoots", laid_marlstone_sum_cubeRoots)] }
def TreePathsSaid : Prop := treePathsRow.holds Tryd.pinned (OpenSpec.ofChange treePathsSpec)

/-- ITS FALSE NEIGHBOUR: 'it returns false'. Refute it at one input. -/
def treePathsWrong : ChangeSpec := { name := "treePaths", fn := fun _ => fun
  | [d1, d2, d3, d4] => { results := [.lit (.bool false)], args := [d1, d2, d3, d4] }
  | _ => none }
def TreePathsWrongFalsely : Prop := treePathsRow.holds Tryd.pinned (OpenSpec.ofChange treePathsWrong)

/-- 'marlstonelaw05.TreeChecks': WHATEVER THE INPUT: true; the input reads as it did. -/
def treeChecksSpec : ChangeSpec := { name := "treeChecks", fn := fun _ => fun
  | [d1, d2, d3, d4, d5, d6] => { results := [.lit (.bool true)], args := [d1, d2, d3, d4, d5, d6] }
  | _ => none }
def treeChecksRow : OpenClaim := { program := "ytaebpnednhkfhaadoor", sum := "26f33e3bd1ad861b6be0f70ff650915875aa3a078bec8a343432f1a364173a33", func := "marlstone/marlstonelaw05.TreeChecks", spec := "treeChecks", unfollowed := true, recurses := true, named := ["marlstone/sum.cubeRoots"], apart := false, laid := [("marlstone/sum.cubeRoots", laid_marlstone_sum_cubeRoots)] }
def TreeChecksSaid : Prop := treeChecksRow.holds Tryd.pinned (OpenSpec.ofChange treeChecksSpec)

/-- ITS FALSE NEIGHBOUR: 'it returns false'. Refute it at one input. -/
def treeChecksWrong : ChangeSpec := { name := "treeChecks", fn := fun _ => fun
  | [d1, d2, d3, d4, d5, d6] => { results := [.lit (.bool false)], args := [d1, d2, d3, d4, d5, d6] }
  | _ => none }
def TreeChecksWrongFalsely : Prop := treeChecksRow.holds Tryd.pinned (OpenSpec.ofChange treeChecksWrong)

/-- 'marlstonelaw05.TreeCheckRanges': WHATEVER THE INPUT: true; the input reads as it did. -/
def treeCheckRangesSpec : ChangeSpec := { name := "treeCheckRanges", fn := fun _ => fun
  | [d1, d2, d3, d4, d5, d6] => { results := [.lit (.bool true)], args := [d1, d2, d3, d4, d5, d6] }
  | _ => none }
def treeCheckRangesRow : OpenClaim := { program := "ytaebpnednhkfhaadoor", sum := "26f33e3bd1ad861b6be0f70ff650915875aa3a078bec8a343432f1a364173a33", func := "marlstone/marlstonelaw05.TreeCheckRanges", spec := "treeCheckRanges", unfollowed := true, recurses := true, named := ["marlstone/sum.cubeRoots"], apart := false, laid := [("marlstone/sum.cubeRoots", laid_marlstone_sum_cubeRoots)] }
def TreeCheckRangesSaid : Prop := treeCheckRangesRow.holds Tryd.pinned (OpenSpec.ofChange treeCheckRangesSpec)

/-- ITS FALSE NEIGHBOUR: 'it returns false'. Refute it at one input. -/
def treeCheckRangesWrong : ChangeSpec := { name := "treeCheckRanges", fn := fun _ => fun
  | [d1, d2, d3, d4, d5, d6] => { results := [.lit (.bool false)], args := [d1, d2, d3, d4, d5, d6] }
  | _ => none }
def TreeCheckRangesWrongFalsely : Prop := treeCheckRangesRow.holds Tryd.pinned (OpenSpec.ofChange treeCheckRangesWrong)

/-- 'marlstonelaw05.TreeProves': WHATEVER THE INPUT: true; the input reads as it did. -/
def treeProvesSpec : ChangeSpec := { name := "treeProves", fn := fun _ => fun
  | [d1, d2, d3, d4] => { results := [.lit (.bool true)], args := [d1, d2, d3, d4] }
  | _ => none }
def treeProvesRow : OpenClaim := { program := "ytaebpnednhkfhaadoor", sum := "26f33e3bd1ad861b6be0f70ff650915875aa3a078bec8a343432f1a364173a33", func := "marlstone/marlstonelaw05.TreeProves", spec := "treeProves", unfollowed := true, recurses := true, named := ["marlstone/sum.cubeRoots"], apart := false, laid := [("marlstone/sum.cubeRoots", laid_marlstone_sum_cubeRoots)] }
def TreeProvesSaid : Prop := treeProvesRow.holds Tryd.pinned (OpenSpec.ofChange treeProvesSpec)

/-- ITS FALSE NEIGHBOUR: 'it returns false'. Refute it at one input. -/
def treeProvesWrong : ChangeSpec := { name := "treeProves", fn := fun _ => fun
  | [d1, d2, d3, d4] => { results := [.lit (.bool false)], args := [d1, d2, d3, d4] }
  | _ => none }
def TreeProvesWrongFalsely : Prop := treeProvesRow.holds Tryd.pinned (OpenSpec.ofChange treeProvesWrong)

/-- 'marlstonelaw05.TreeShort': WHATEVER THE INPUT: true; the input reads as it did. -/
def treeShortSpec : ChangeSpec := { name := "treeShort", fn := fun _ => fun
  | [d1, d2, d3] => { results := [.lit (.bool true)], args := [d1, d2, d3] }
  | _ => none }
def treeShortRow : OpenClaim := { program := "ytaebpnednhkfhaadoor", sum := "26f33e3bd1ad861b6be0f70ff650915875aa3a078bec8a343432f1a364173a33", func := "marlstone/marlstonelaw05.TreeShort", spec := "treeShort", unfollowed := true, recurses := true, named := ["marlstone/sum.cubeRoots"], apart := false, laid := [("marlstone/sum.cubeRoots", laid_marlstone_sum_cubeRoots)] }
def TreeShortSaid : Prop := treeShortRow.holds Tryd.pinned (OpenSpec.ofChange treeShortSpec)

/-- ITS FALSE NEIGHBOUR: 'it returns false'. Refute it at one input. -/
def treeShortWrong : ChangeSpec := { name := "treeShort", fn := fun _ => fun
  | [d1, d2, d3] => { results := [.lit (.bool false)], args := [d1, d2, d3] }
  | _ => none }
def TreeShortWrongFalsely : Prop := treeShortRow.holds Tryd.pinned (OpenSpec.ofChange treeShortWrong)

/-- 'marlstonelaw05.TreeSplits': WHATEVER THE INPUT: true; the input reads as it did. -/
def treeSplitsSpec : ChangeSpec := { name := "treeSplits", fn := fun _ => fun
  | [d1, d2] => { results := [.lit (.bool true)], args := [d1, d2] }
  | _ => none }
def treeSplitsRow : OpenClaim := { program := "ytaebpnednhkfhaadoor", sum := "26f33e3bd1ad861b6be0f70ff650915875aa3a078bec8a343432f1a364173a33", func := "marlstone/marlstonelaw05.TreeSplits", spec := "treeSplits", unfollowed := true, recurses := true, named := ["marlstone/sum.cubeRoots"], apart := false, laid := [("marlstone/sum.cubeRoots", laid_marlstone_sum_cubeRoots)] }
def TreeSplitsSaid : Prop := treeSplitsRow.holds Tryd.pinned (OpenSpec.ofChange treeSplitsSpec)

/-- ITS FALSE NEIGHBOUR: 'it returns false'. Refute it at one input. -/
def treeSplitsWrong : ChangeSpec := { name := "treeSplits", fn := fun _ => fun
  | [d1, d2] => { results := [.lit (.bool false)], args := [d1, d2] }
  | _ => none }
def TreeSplitsWrongFalsely : Prop := treeSplitsRow.holds Tryd.pinned (OpenSpec.ofChange treeSplitsWrong)

/-- 'marlstonelaw05.TreeWide': WHATEVER THE INPUT: true; the input reads as it did. -/
def treeWideSpec : ChangeSpec := { name := "treeWide", fn := fun _ => fun
  | [d1, d2, d3, d4] => { results := [.lit (.bool true)], args := [d1, d2, d3, d4] }
  | _ => none }
def treeWideRow : OpenClaim := { program := "ytaebpnednhkfhaadoor", sum := "26f33e3bd1ad861b6be0f70ff650915875aa3a078bec8a343432f1a364173a33", func := "marlstone/marlstonelaw05.TreeWide", spec := "treeWide", unfollowed := true, recurses := true, named := ["marlstone/sum.cubeRoots"], apart := false, laid := [("marlstone/sum.cubeRoots", laid_marlstone_sum_cubeRoots)] }
def TreeWideSaid : Prop := treeWideRow.holds Tryd.pinned (OpenSpec.ofChange treeWideSpec)

/-- ITS FALSE NEIGHBOUR: 'it returns false'. Refute it at one input. -/
def treeWideWrong : ChangeSpec := { name := "treeWide", fn := fun _ => fun
  | [d1, d2, d3, d4] => { results := [.lit (.bool false)], args := [d1, d2, d3, d4] }
  | _ => none }
def TreeWideWrongFalsely : Prop := treeWideRow.holds Tryd.pinned (OpenSpec.ofChange treeWideWrong)

/-- 'marlstonelaw05.TreeWhole': WHATEVER THE INPUT: true; the input reads as it did. -/
def treeWholeSpec : ChangeSpec := { name := "treeWhole", fn := fun _ => fun
  | [d1, d2, d3] => { results := [.lit (.bool true)], args := [d1, d2, d3] }
  | _ => none }
def treeWholeRow : OpenClaim := { program := "ytaebpnednhkfhaadoor", sum := "26f33e3bd1ad861b6be0f70ff650915875aa3a078bec8a343432f1a364173a33", func := "marlstone/marlstonelaw05.TreeWhole", spec := "treeWhole", unfollowed := true, recurses := true, named := ["marlstone/sum.cubeRoots"], apart := false, laid := [("marlstone/sum.cubeRoots", laid_marlstone_sum_cubeRoots)] }
def TreeWholeSaid : Prop := treeWholeRow.holds Tryd.pinned (OpenSpec.ofChange treeWholeSpec)

/-- ITS FALSE NEIGHBOUR: 'it returns false'. Refute it at one input. -/
def treeWholeWrong : ChangeSpec := { name := "treeWhole", fn := fun _ => fun
  | [d1, d2, d3] => { results := [.lit (.bool false)], args := [d1, d2, d3] }
  | _ => none }
def TreeWholeWrongFalsely : Prop := treeWholeRow.holds Tryd.pinned (OpenSpec.ofChange treeWholeWrong)

/-- 'marlstonelaw05.TreeDepth': WHATEVER THE INPUT: true; the input reads as it did. -/
def treeDepthSpec : ChangeSpec := { name := "treeDepth", fn := fun _ => fun
  | [d1, d2] => { results := [.lit (.bool true)], args := [d1, d2] }
  | _ => none }
def treeDepthRow : OpenClaim := { program := "ytaebpnednhkfhaadoor", sum := "26f33e3bd1ad861b6be0f70ff650915875aa3a078bec8a343432f1a364173a33", func := "marlstone/marlstonelaw05.TreeDepth", spec := "treeDepth", unfollowed := true, recurses := true, named := ["marlstone/sum.cubeRoots"], apart := false, laid := [("marlstone/sum.cubeRoots", laid_marlstone_sum_cubeRoots)] }
def TreeDepthSaid : Prop := treeDepthRow.holds Tryd.pinned (OpenSpec.ofChange treeDepthSpec)

/-- ITS FALSE NEIGHBOUR: 'it returns false'. Refute it at one input. -/
def treeDepthWrong : ChangeSpec := { name := "treeDepth", fn := fun _ => fun
  | [d1, d2] => { results := [.lit (.bool false)], args := [d1, d2] }
  | _ => none }
def TreeDepthWrongFalsely : Prop := treeDepthRow.holds Tryd.pinned (OpenSpec.ofChange treeDepthWrong)

/-- 'marlstonelaw06.ClashOpens': WHATEVER THE INPUT: true; the input reads as it did. -/
def clashOpensSpec : ChangeSpec := { name := "clashOpens", fn := fun _ => fun
  | [d1, d2, d3, d4, d5] => { results := [.lit (.bool true)], args := [d1, d2, d3, d4, d5] }
  | _ => none }
def clashOpensRow : OpenClaim := { program := "ytaebpnednhkfhaadoor", sum := "26f33e3bd1ad861b6be0f70ff650915875aa3a078bec8a343432f1a364173a33", func := "marlstone/marlstonelaw06.ClashOpens", spec := "clashOpens", unfollowed := true, recurses := true, named := ["marlstone/sum.cubeRoots"], apart := false, laid := [("marlstone/sum.cubeRoots", laid_marlstone_sum_cubeRoots)] }
def ClashOpensSaid : Prop := clashOpensRow.holds Tryd.pinned (OpenSpec.ofChange clashOpensSpec)

/-- ITS FALSE NEIGHBOUR: 'it returns false'. Refute it at one input. -/
def clashOpensWrong : ChangeSpec := { name := "clashOpens", fn := fun _ => fun
  | [d1, d2, d3, d4, d5] => { results := [.lit (.bool false)], args := [d1, d2, d3, d4, d5] }
  | _ => none }
def ClashOpensWrongFalsely : Prop := clashOpensRow.holds Tryd.pinned (OpenSpec.ofChange clashOpensWrong)

/-- 'marlstonelaw06.ClashParts': WHATEVER THE INPUT: true; the input reads as it did. -/
def clashPartsSpec : ChangeSpec := { name := "clashParts", fn := fun _ => fun
  | [d1, d2, d3, d4, d5] => { results := [.lit (.bool true)], args := [d1, d2, d3, d4, d5] }
  | _ => none }
def clashPartsRow : OpenClaim := { program := "ytaebpnednhkfhaadoor", sum := "26f33e3bd1ad861b6be0f70ff650915875aa3a078bec8a343432f1a364173a33", func := "marlstone/marlstonelaw06.ClashParts", spec := "clashParts", unfollowed := true, recurses := true, named := ["marlstone/sum.cubeRoots"], apart := false, laid := [("marlstone/sum.cubeRoots", laid_marlstone_sum_cubeRoots)] }
def ClashPartsSaid : Prop := clashPartsRow.holds Tryd.pinned (OpenSpec.ofChange clashPartsSpec)

/-- ITS FALSE NEIGHBOUR: 'it returns false'. Refute it at one input. -/
def clashPartsWrong : ChangeSpec := { name := "clashParts", fn := fun _ => fun
  | [d1, d2, d3, d4, d5] => { results := [.lit (.bool false)], args := [d1, d2, d3, d4, d5] }
  | _ => none }
def ClashPartsWrongFalsely : Prop := clashPartsRow.holds Tryd.pinned (OpenSpec.ofChange clashPartsWrong)

/-- 'marlstonelaw06.ClashSound': WHATEVER THE INPUT: true; the input reads as it did. -/
def clashSoundSpec : ChangeSpec := { name := "clashSound", fn := fun _ => fun
  | [d1, d2, d3, d4, d5] => { results := [.lit (.bool true)], args := [d1, d2, d3, d4, d5] }
  | _ => none }
def clashSoundRow : OpenClaim := { program := "ytaebpnednhkfhaadoor", sum := "26f33e3bd1ad861b6be0f70ff650915875aa3a078bec8a343432f1a364173a33", func := "marlstone/marlstonelaw06.ClashSound", spec := "clashSound", unfollowed := true, recurses := true, named := ["marlstone/sum.cubeRoots"], apart := false, laid := [("marlstone/sum.cubeRoots", laid_marlstone_sum_cubeRoots)] }
def ClashSoundSaid : Prop := clashSoundRow.holds Tryd.pinned (OpenSpec.ofChange clashSoundSpec)

/-- ITS FALSE NEIGHBOUR: 'it returns false'. Refute it at one input. -/
def clashSoundWrong : ChangeSpec := { name := "clashSound", fn := fun _ => fun
  | [d1, d2, d3, d4, d5] => { results := [.lit (.bool false)], args := [d1, d2, d3, d4, d5] }
  | _ => none }
def ClashSoundWrongFalsely : Prop := clashSoundRow.holds Tryd.pinned (OpenSpec.ofChange clashSoundWrong)

/-- 'marlstonelaw06.ClashWhole': WHATEVER THE INPUT: true; the input reads as it did. -/
def clashWholeSpec : ChangeSpec := { name := "clashWhole", fn := fun _ => fun
  | [d1, d2, d3, d4, d5] => { results := [.lit (.bool true)], args := [d1, d2, d3, d4, d5] }
  | _ => none }
def clashWholeRow : OpenClaim := { program := "ytaebpnednhkfhaadoor", sum := "26f33e3bd1ad861b6be0f70ff650915875aa3a078bec8a343432f1a364173a33", func := "marlstone/marlstonelaw06.ClashWhole", spec := "clashWhole", unfollowed := true, recurses := true, named := ["marlstone/sum.cubeRoots"], apart := false, laid := [("marlstone/sum.cubeRoots", laid_marlstone_sum_cubeRoots)] }
def ClashWholeSaid : Prop := clashWholeRow.holds Tryd.pinned (OpenSpec.ofChange clashWholeSpec)

/-- ITS FALSE NEIGHBOUR: 'it returns false'. Refute it at one input. -/
def clashWholeWrong : ChangeSpec := { name := "clashWhole", fn := fun _ => fun
  | [d1, d2, d3, d4, d5] => { results := [.lit (.bool false)], args := [d1, d2, d3, d4, d5] }
  | _ => none }
def ClashWholeWrongFalsely : Prop := clashWholeRow.holds Tryd.pinned (OpenSpec.ofChange clashWholeWrong)

/-- 'marlstonelaw06.ClashLists': WHATEVER THE INPUT: true; the input reads as it did. -/
def clashListsSpec : ChangeSpec := { name := "clashLists", fn := fun _ => fun
  | [d1, d2, d3] => { results := [.lit (.bool true)], args := [d1, d2, d3] }
  | _ => none }
def clashListsRow : OpenClaim := { program := "ytaebpnednhkfhaadoor", sum := "26f33e3bd1ad861b6be0f70ff650915875aa3a078bec8a343432f1a364173a33", func := "marlstone/marlstonelaw06.ClashLists", spec := "clashLists", unfollowed := true, recurses := true, named := ["marlstone/sum.cubeRoots"], apart := false, laid := [("marlstone/sum.cubeRoots", laid_marlstone_sum_cubeRoots)] }
def ClashListsSaid : Prop := clashListsRow.holds Tryd.pinned (OpenSpec.ofChange clashListsSpec)

/-- ITS FALSE NEIGHBOUR: 'it returns false'. Refute it at one input. -/
def clashListsWrong : ChangeSpec := { name := "clashLists", fn := fun _ => fun
  | [d1, d2, d3] => { results := [.lit (.bool false)], args := [d1, d2, d3] }
  | _ => none }
def ClashListsWrongFalsely : Prop := clashListsRow.holds Tryd.pinned (OpenSpec.ofChange clashListsWrong)

/-- 'marlstonelaw06.ClashTurned': WHATEVER THE INPUT: true; the input reads as it did. -/
def clashTurnedSpec : ChangeSpec := { name := "clashTurned", fn := fun _ => fun
  | [d1, d2, d3] => { results := [.lit (.bool true)], args := [d1, d2, d3] }
  | _ => none }
def clashTurnedRow : OpenClaim := { program := "ytaebpnednhkfhaadoor", sum := "26f33e3bd1ad861b6be0f70ff650915875aa3a078bec8a343432f1a364173a33", func := "marlstone/marlstonelaw06.ClashTurned", spec := "clashTurned", unfollowed := true, recurses := true, named := ["marlstone/sum.cubeRoots"], apart := false, laid := [("marlstone/sum.cubeRoots", laid_marlstone_sum_cubeRoots)] }
def ClashTurnedSaid : Prop := clashTurnedRow.holds Tryd.pinned (OpenSpec.ofChange clashTurnedSpec)

/-- ITS FALSE NEIGHBOUR: 'it returns false'. Refute it at one input. -/
def clashTurnedWrong : ChangeSpec := { name := "clashTurned", fn := fun _ => fun
  | [d1, d2, d3] => { results := [.lit (.bool false)], args := [d1, d2, d3] }
  | _ => none }
def ClashTurnedWrongFalsely : Prop := clashTurnedRow.holds Tryd.pinned (OpenSpec.ofChange clashTurnedWrong)

/-- 'marlstonelaw06.ClashNone': WHATEVER THE INPUT: true; the input reads as it did. -/
def clashNoneSpec : ChangeSpec := { name := "clashNone", fn := fun _ => fun
  | [d1, d2, d3, d4] => { results := [.lit (.bool true)], args := [d1, d2, d3, d4] }
  | _ => none }
def clashNoneRow : OpenClaim := { program := "ytaebpnednhkfhaadoor", sum := "26f33e3bd1ad861b6be0f70ff650915875aa3a078bec8a343432f1a364173a33", func := "marlstone/marlstonelaw06.ClashNone", spec := "clashNone", unfollowed := true, recurses := true, named := ["marlstone/sum.cubeRoots"], apart := false, laid := [("marlstone/sum.cubeRoots", laid_marlstone_sum_cubeRoots)] }
def ClashNoneSaid : Prop := clashNoneRow.holds Tryd.pinned (OpenSpec.ofChange clashNoneSpec)

/-- ITS FALSE NEIGHBOUR: 'it returns false'. Refute it at one input. -/
def clashNoneWrong : ChangeSpec := { name := "clashNone", fn := fun _ => fun
  | [d1, d2, d3, d4] => { results := [.lit (.bool false)], args := [d1, d2, d3, d4] }
  | _ => none }
def ClashNoneWrongFalsely : Prop := clashNoneRow.holds Tryd.pinned (OpenSpec.ofChange clashNoneWrong)

/- THE SECOND FORM. 'bulk': how many values and letters a reading holds, each counted each time it is reached (what is shared counts as often as it is met; a slice's spare places count too). A statement '..UptoSaid' is the law's where the arguments, and the package variables that the reading takes, are together of bulk at most 1048576: NARROWER than '..Said'. Prove '..Said' where nothing that the law and all that it calls make is longer than what came in: it says more and counts as full. Else prove '..UptoSaid'. A law counts once. -/
mutual
def uptoBulk {H : Type} : DataW H → Nat
  | .lit (.string bytes) => bytes.length + 1
  | .lit _ => 1
  | .nil => 1
  | .ptr d => uptoBulk d + 1
  | .slice elems spare => uptoBulkAll elems + uptoBulkAll spare + 1
  | .agg parts => uptoBulkAll parts + 1
  | .iface _ d => uptoBulk d + 1
  | .map entries => uptoBulkEntries entries + 1
  | .held _ => 1
def uptoBulkAll {H : Type} : List (DataW H) → Nat
  | [] => 0
  | d :: r => uptoBulk d + uptoBulkAll r
def uptoBulkEntries {H : Type} : List (Lit × DataW H) → Nat
  | [] => 0
  | x :: r => uptoBulkEntry x + uptoBulkEntries r
def uptoBulkEntry {H : Type} : Lit × DataW H → Nat
  | (.string bytes, d) => bytes.length + uptoBulk d + 1
  | (_, d) => uptoBulk d + 1
 end
def uptoSmall : (H : Type) → List (DataW H) → Bool := fun _ ds => decide (uptoBulkAll ds ≤ 1048576)
def OpenSpec.upto (s : _root_.Go.ChangeSpec) : _root_.Go.OpenSpec := { _root_.Go.OpenSpec.ofChange s with cond := some uptoSmall }

/-- 'marlstonelaw05.TreeRoots', WHERE WHAT IT READS IS OF BULK AT MOST 1048576: true; the input reads as it did. -/
def treeRootsUptoRow : OpenClaim := { program := "ytaebpnednhkfhaadoor", sum := "26f33e3bd1ad861b6be0f70ff650915875aa3a078bec8a343432f1a364173a33", func := "marlstone/marlstonelaw05.TreeRoots", spec := "treeRoots", unfollowed := true, recurses := true, named := ["marlstone/sum.cubeRoots"], apart := false, laid := [("marlstone/sum.cubeRoots", laid_marlstone_sum_cubeRoots)], narrowed := true }
def TreeRootsUptoSaid : Prop := treeRootsUptoRow.holds Tryd.pinned (OpenSpec.upto treeRootsSpec)

/-- 'marlstonelaw05.TreePaths', WHERE WHAT IT READS IS OF BULK AT MOST 1048576: true; the input reads as it did. -/
def treePathsUptoRow : OpenClaim := { program := "ytaebpnednhkfhaadoor", sum := "26f33e3bd1ad861b6be0f70ff650915875aa3a078bec8a343432f1a364173a33", func := "marlstone/marlstonelaw05.TreePaths", spec := "treePaths", unfollowed := true, recurses := true, named := ["marlstone/sum.cubeRoots"], apart := false, laid := [("marlstone/sum.cubeRoots", laid_marlstone_sum_cubeRoots)], narrowed := true }
def TreePathsUptoSaid : Prop := treePathsUptoRow.holds Tryd.pinned (OpenSpec.upto treePathsSpec)

/-- 'marlstonelaw05.TreeChecks', WHERE WHAT IT READS IS OF BULK AT MOST 1048576: true; the input reads as it did. -/
def treeChecksUptoRow : OpenClaim := { program := "ytaebpnednhkfhaadoor", sum := "26f33e3bd1ad861b6be0f70ff650915875aa3a078bec8a343432f1a364173a33", func := "marlstone/marlstonelaw05.TreeChecks", spec := "treeChecks", unfollowed := true, recurses := true, named := ["marlstone/sum.cubeRoots"], apart := false, laid := [("marlstone/sum.cubeRoots", laid_marlstone_sum_cubeRoots)], narrowed := true }
def TreeChecksUptoSaid : Prop := treeChecksUptoRow.holds Tryd.pinned (OpenSpec.upto treeChecksSpec)

/-- 'marlstonelaw05.TreeCheckRanges', WHERE WHAT IT READS IS OF BULK AT MOST 1048576: true; the input reads as it did. -/
def treeCheckRangesUptoRow : OpenClaim := { program := "ytaebpnednhkfhaadoor", sum := "26f33e3bd1ad861b6be0f70ff650915875aa3a078bec8a343432f1a364173a33", func := "marlstone/marlstonelaw05.TreeCheckRanges", spec := "treeCheckRanges", unfollowed := true, recurses := true, named := ["marlstone/sum.cubeRoots"], apart := false, laid := [("marlstone/sum.cubeRoots", laid_marlstone_sum_cubeRoots)], narrowed := true }
def TreeCheckRangesUptoSaid : Prop := treeCheckRangesUptoRow.holds Tryd.pinned (OpenSpec.upto treeCheckRangesSpec)

/-- 'marlstonelaw05.TreeProves', WHERE WHAT IT READS IS OF BULK AT MOST 1048576: true; the input reads as it did. -/
def treeProvesUptoRow : OpenClaim := { program := "ytaebpnednhkfhaadoor", sum := "26f33e3bd1ad861b6be0f70ff650915875aa3a078bec8a343432f1a364173a33", func := "marlstone/marlstonelaw05.TreeProves", spec := "treeProves", unfollowed := true, recurses := true, named := ["marlstone/sum.cubeRoots"], apart := false, laid := [("marlstone/sum.cubeRoots", laid_marlstone_sum_cubeRoots)], narrowed := true }
def TreeProvesUptoSaid : Prop := treeProvesUptoRow.holds Tryd.pinned (OpenSpec.upto treeProvesSpec)

/-- 'marlstonelaw05.TreeShort', WHERE WHAT IT READS IS OF BULK AT MOST 1048576: true; the input reads as it did. -/
def treeShortUptoRow : OpenClaim := { program := "ytaebpnednhkfhaadoor", sum := "26f33e3bd1ad861b6be0f70ff650915875aa3a078bec8a343432f1a364173a33", func := "marlstone/marlstonelaw05.TreeShort", spec := "treeShort", unfollowed := true, recurses := true, named := ["marlstone/sum.cubeRoots"], apart := false, laid := [("marlstone/sum.cubeRoots", laid_marlstone_sum_cubeRoots)], narrowed := true }
def TreeShortUptoSaid : Prop := treeShortUptoRow.holds Tryd.pinned (OpenSpec.upto treeShortSpec)

/-- 'marlstonelaw05.TreeSplits', WHERE WHAT IT READS IS OF BULK AT MOST 1048576: true; the input reads as it did. -/
def treeSplitsUptoRow : OpenClaim := { program := "ytaebpnednhkfhaadoor", sum := "26f33e3bd1ad861b6be0f70ff650915875aa3a078bec8a343432f1a364173a33", func := "marlstone/marlstonelaw05.TreeSplits", spec := "treeSplits", unfollowed := true, recurses := true, named := ["marlstone/sum.cubeRoots"], apart := false, laid := [("marlstone/sum.cubeRoots", laid_marlstone_sum_cubeRoots)], narrowed := true }
def TreeSplitsUptoSaid : Prop := treeSplitsUptoRow.holds Tryd.pinned (OpenSpec.upto treeSplitsSpec)

/-- 'marlstonelaw05.TreeWide', WHERE WHAT IT READS IS OF BULK AT MOST 1048576: true; the input reads as it did. -/
def treeWideUptoRow : OpenClaim := { program := "ytaebpnednhkfhaadoor", sum := "26f33e3bd1ad861b6be0f70ff650915875aa3a078bec8a343432f1a364173a33", func := "marlstone/marlstonelaw05.TreeWide", spec := "treeWide", unfollowed := true, recurses := true, named := ["marlstone/sum.cubeRoots"], apart := false, laid := [("marlstone/sum.cubeRoots", laid_marlstone_sum_cubeRoots)], narrowed := true }
def TreeWideUptoSaid : Prop := treeWideUptoRow.holds Tryd.pinned (OpenSpec.upto treeWideSpec)

/-- 'marlstonelaw05.TreeWhole', WHERE WHAT IT READS IS OF BULK AT MOST 1048576: true; the input reads as it did. -/
def treeWholeUptoRow : OpenClaim := { program := "ytaebpnednhkfhaadoor", sum := "26f33e3bd1ad861b6be0f70ff650915875aa3a078bec8a343432f1a364173a33", func := "marlstone/marlstonelaw05.TreeWhole", spec := "treeWhole", unfollowed := true, recurses := true, named := ["marlstone/sum.cubeRoots"], apart := false, laid := [("marlstone/sum.cubeRoots", laid_marlstone_sum_cubeRoots)], narrowed := true }
def TreeWholeUptoSaid : Prop := treeWholeUptoRow.holds Tryd.pinned (OpenSpec.upto treeWholeSpec)

/-- 'marlstonelaw05.TreeDepth', WHERE WHAT IT READS IS OF BULK AT MOST 1048576: true; the input reads as it did. -/
def treeDepthUptoRow : OpenClaim := { program := "ytaebpnednhkfhaadoor", sum := "26f33e3bd1ad861b6be0f70ff650915875aa3a078bec8a343432f1a364173a33", func := "marlstone/marlstonelaw05.TreeDepth", spec := "treeDepth", unfollowed := true, recurses := true, named := ["marlstone/sum.cubeRoots"], apart := false, laid := [("marlstone/sum.cubeRoots", laid_marlstone_sum_cubeRoots)], narrowed := true }
def TreeDepthUptoSaid : Prop := treeDepthUptoRow.holds Tryd.pinned (OpenSpec.upto treeDepthSpec)

/-- 'marlstonelaw06.ClashOpens', WHERE WHAT IT READS IS OF BULK AT MOST 1048576: true; the input reads as it did. -/
def clashOpensUptoRow : OpenClaim := { program := "ytaebpnednhkfhaadoor", sum := "26f33e3bd1ad861b6be0f70ff650915875aa3a078bec8a343432f1a364173a33", func := "marlstone/marlstonelaw06.ClashOpens", spec := "clashOpens", unfollowed := true, recurses := true, named := ["marlstone/sum.cubeRoots"], apart := false, laid := [("marlstone/sum.cubeRoots", laid_marlstone_sum_cubeRoots)], narrowed := true }
def ClashOpensUptoSaid : Prop := clashOpensUptoRow.holds Tryd.pinned (OpenSpec.upto clashOpensSpec)

/-- 'marlstonelaw06.ClashParts', WHERE WHAT IT READS IS OF BULK AT MOST 1048576: true; the input reads as it did. -/
def clashPartsUptoRow : OpenClaim := { program := "ytaebpnednhkfhaadoor", sum := "26f33e3bd1ad861b6be0f70ff650915875aa3a078bec8a343432f1a364173a33", func := "marlstone/marlstonelaw06.ClashParts", spec := "clashParts", unfollowed := true, recurses := true, named := ["marlstone/sum.cubeRoots"], apart := false, laid := [("marlstone/sum.cubeRoots", laid_marlstone_sum_cubeRoots)], narrowed := true }
def ClashPartsUptoSaid : Prop := clashPartsUptoRow.holds Tryd.pinned (OpenSpec.upto clashPartsSpec)

/-- 'marlstonelaw06.ClashSound', WHERE WHAT IT READS IS OF BULK AT MOST 1048576: true; the input reads as it did. -/
def clashSoundUptoRow : OpenClaim := { program := "ytaebpnednhkfhaadoor", sum := "26f33e3bd1ad861b6be0f70ff650915875aa3a078bec8a343432f1a364173a33", func := "marlstone/marlstonelaw06.ClashSound", spec := "clashSound", unfollowed := true, recurses := true, named := ["marlstone/sum.cubeRoots"], apart := false, laid := [("marlstone/sum.cubeRoots", laid_marlstone_sum_cubeRoots)], narrowed := true }
def ClashSoundUptoSaid : Prop := clashSoundUptoRow.holds Tryd.pinned (OpenSpec.upto clashSoundSpec)

/-- 'marlstonelaw06.ClashWhole', WHERE WHAT IT READS IS OF BULK AT MOST 1048576: true; the input reads as it did. -/
def clashWholeUptoRow : OpenClaim := { program := "ytaebpnednhkfhaadoor", sum := "26f33e3bd1ad861b6be0f70ff650915875aa3a078bec8a343432f1a364173a33", func := "marlstone/marlstonelaw06.ClashWhole", spec := "clashWhole", unfollowed := true, recurses := true, named := ["marlstone/sum.cubeRoots"], apart := false, laid := [("marlstone/sum.cubeRoots", laid_marlstone_sum_cubeRoots)], narrowed := true }
def ClashWholeUptoSaid : Prop := clashWholeUptoRow.holds Tryd.pinned (OpenSpec.upto clashWholeSpec)

/-- 'marlstonelaw06.ClashLists', WHERE WHAT IT READS IS OF BULK AT MOST 1048576: true; the input reads as it did. -/
def clashListsUptoRow : OpenClaim := { program := "ytaebpnednhkfhaadoor", sum := "26f33e3bd1ad861b6be0f70ff650915875aa3a078bec8a343432f1a364173a33", func := "marlstone/marlstonelaw06.ClashLists", spec := "clashLists", unfollowed := true, recurses := true, named := ["marlstone/sum.cubeRoots"], apart := false, laid := [("marlstone/sum.cubeRoots", laid_marlstone_sum_cubeRoots)], narrowed := true }
def ClashListsUptoSaid : Prop := clashListsUptoRow.holds Tryd.pinned (OpenSpec.upto clashListsSpec)

/-- 'marlstonelaw06.ClashTurned', WHERE WHAT IT READS IS OF BULK AT MOST 1048576: true; the input reads as it did. -/
def clashTurnedUptoRow : OpenClaim := { program := "ytaebpnednhkfhaadoor", sum := "26f33e3bd1ad861b6be0f70ff650915875aa3a078bec8a343432f1a364173a33", func := "marlstone/marlstonelaw06.ClashTurned", spec := "clashTurned", unfollowed := true, recurses := true, named := ["marlstone/sum.cubeRoots"], apart := false, laid := [("marlstone/sum.cubeRoots", laid_marlstone_sum_cubeRoots)], narrowed := true }
def ClashTurnedUptoSaid : Prop := clashTurnedUptoRow.holds Tryd.pinned (OpenSpec.upto clashTurnedSpec)

/-- 'marlstonelaw06.ClashNone', WHERE WHAT IT READS IS OF BULK AT MOST 1048576: true; the input reads as it did. -/
def clashNoneUptoRow : OpenClaim := { program := "ytaebpnednhkfhaadoor", sum := "26f33e3bd1ad861b6be0f70ff650915875aa3a078bec8a343432f1a364173a33", func := "marlstone/marlstonelaw06.ClashNone", spec := "clashNone", unfollowed := true, recurses := true, named := ["marlstone/sum.cubeRoots"], apart := false, laid := [("marlstone/sum.cubeRoots", laid_marlstone_sum_cubeRoots)], narrowed := true }
def ClashNoneUptoSaid : Prop := clashNoneUptoRow.holds Tryd.pinned (OpenSpec.upto clashNoneSpec)

end Rows
end Go.Proofs.YtaebpnednhkfhaaDoor
