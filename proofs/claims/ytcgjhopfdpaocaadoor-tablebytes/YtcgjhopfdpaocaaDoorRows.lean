/-
  NARROWER THAN 'FOR EVERY INPUT', by the rows' own cells (each row's printed sentence says how): TableBytes: laid · TableParses: laid · TableBack: laid · TableOnce: laid · TableKnown: laid · TableBlocks: laid · TableCuts: laid · TableLevels: laid.
  DERIVED. THE GIVEN ROWS OF THIS SEAT. 8 by the template 'for every input the law returns true; each argument reads behind the call as it read before'; 0 by the template 'total and deterministic' (their statements: YtcgjhopfdpaocaaDoorTotals.lean).
  GIVEN WITH THE SEED: the statements are not yours to turn. If you find one false, say at which input.
  Laid BY PROGRAM, IN A SANDBOX (cutbox-rows.mjs): the forced cells as the released guide's own fill.sh prints them over the translation 384faf413ad81a33… (all of the seat's roots in one cut). By AI agents, Wed Nov 11 2026. No macro, syntax, notation, axiom, sorry.
-/
import Derived.Test.YtcgjhopfdpaocaaDoorChecked
import GoSem.Claim
import GoSem.ClaimJoined
import GoSem.ClaimMapViews
import Derived.JoinedTies
import Derived.KernelRfl
namespace Go.Proofs.YtcgjhopfdpaocaaDoor
/- THE CELL 'sum', in the pinned program and in every row, IS THE sha256 OF THE DUMP (.gsa) THAT YtcgjhopfdpaocaaDoorProg.lean LOADS. Nothing in Lean hashes anything: it is a label: what it is worth is what the hold of that sum in a sandbox is worth. -/
noncomputable def Tryd.pinned : Pinned := { name := "ytcgjhopfdpaocaadoor", sum := "384faf413ad81a3314dcf61f698c153446cf263abfd7413bcbbf8d1c21de87ff", checked := Tryd.checked }
namespace Rows
def none {H : Type} : Left H := { results := [], args := [] }

/- WHAT THE LISTED PACKAGE-LEVEL VARIABLES READ AS WHEN THE CALL BEGINS. Each datum BY PROGRAM (the guide's laid-datum.mjs) off the statement by which the dump's own 'gosem.cut.vars' lays the variable. In a bare row this is a premise. The card (YtcgjhopfdpaocaaDoorCards.lean) ties it to the program's text. -/
def laid_marlstone_sum_cubeRoots {H : Type} : DataW H := .agg [.lit (.int .u32 1116352408), .lit (.int .u32 1899447441), .lit (.int .u32 3049323471), .lit (.int .u32 3921009573), .lit (.int .u32 961987163), .lit (.int .u32 1508970993), .lit (.int .u32 2453635748), .lit (.int .u32 2870763221), .lit (.int .u32 3624381080), .lit (.int .u32 310598401), .lit (.int .u32 607225278), .lit (.int .u32 1426881987), .lit (.int .u32 1925078388), .lit (.int .u32 2162078206), .lit (.int .u32 2614888103), .lit (.int .u32 3248222580), .lit (.int .u32 3835390401), .lit (.int .u32 4022224774), .lit (.int .u32 264347078), .lit (.int .u32 604807628), .lit (.int .u32 770255983), .lit (.int .u32 1249150122), .lit (.int .u32 1555081692), .lit (.int .u32 1996064986), .lit (.int .u32 2554220882), .lit (.int .u32 2821834349), .lit (.int .u32 2952996808), .lit (.int .u32 3210313671), .lit (.int .u32 3336571891), .lit (.int .u32 3584528711), .lit (.int .u32 113926993), .lit (.int .u32 338241895), .lit (.int .u32 666307205), .lit (.int .u32 773529912), .lit (.int .u32 1294757372), .lit (.int .u32 1396182291), .lit (.int .u32 1695183700), .lit (.int .u32 1986661051), .lit (.int .u32 2177026350), .lit (.int .u32 2456956037), .lit (.int .u32 2730485921), .lit (.int .u32 2820302411), .lit (.int .u32 3259730800), .lit (.int .u32 3345764771), .lit (.int .u32 3516065817), .lit (.int .u32 3600352804), .lit (.int .u32 4094571909), .lit (.int .u32 275423344), .lit (.int .u32 430227734), .lit (.int .u32 506948616), .lit (.int .u32 659060556), .lit (.int .u32 883997877), .lit (.int .u32 958139571), .lit (.int .u32 1322822218), .lit (.int .u32 1537002063), .lit (.int .u32 1747873779), .lit (.int .u32 1955562222), .lit (.int .u32 2024104815), .lit (.int .u32 2227730452), .lit (.int .u32 2361852424), .lit (.int .u32 2428436474), .lit (.int .u32 2756734187), .lit (.int .u32 3204031479), .lit (.int .u32 3329325298)]

/-- 'marlstonelaw11.TableBytes': WHATEVER THE INPUT: true; the input reads as it did. -/
def tableBytesSpec : ChangeSpec := { name := "tableBytes", fn := fun _ => fun
  | [d1, d2, d3] => { results := [.lit (.bool true)], args := [d1, d2, d3] }
  | _ => none }
def tableBytesRow : OpenClaim := { program := "ytcgjhopfdpaocaadoor", sum := "384faf413ad81a3314dcf61f698c153446cf263abfd7413bcbbf8d1c21de87ff", func := "marlstone/marlstonelaw11.TableBytes", spec := "tableBytes", unfollowed := true, recurses := true, named := ["marlstone/sum.cubeRoots"], apart := false, laid := [("marlstone/sum.cubeRoots", laid_marlstone_sum_cubeRoots)] }
def TableBytesSaid : Prop := tableBytesRow.holds Tryd.pinned (OpenSpec.ofChange tableBytesSpec)

/-- ITS FALSE NEIGHBOUR: 'it returns false'. Refute it at one input. -/
def tableBytesWrong : ChangeSpec := { name := "tableBytes", fn := fun _ => fun
  | [d1, d2, d3] => { results := [.lit (.bool false)], args := [d1, d2, d3] }
  | _ => none }
def TableBytesWrongFalsely : Prop := tableBytesRow.holds Tryd.pinned (OpenSpec.ofChange tableBytesWrong)

/-- 'marlstonelaw11.TableParses': WHATEVER THE INPUT: true; the input reads as it did. -/
def tableParsesSpec : ChangeSpec := { name := "tableParses", fn := fun _ => fun
  | [d1, d2] => { results := [.lit (.bool true)], args := [d1, d2] }
  | _ => none }
def tableParsesRow : OpenClaim := { program := "ytcgjhopfdpaocaadoor", sum := "384faf413ad81a3314dcf61f698c153446cf263abfd7413bcbbf8d1c21de87ff", func := "marlstone/marlstonelaw11.TableParses", spec := "tableParses", unfollowed := true, recurses := true, named := ["marlstone/sum.cubeRoots"], apart := false, laid := [("marlstone/sum.cubeRoots", laid_marlstone_sum_cubeRoots)] }
def TableParsesSaid : Prop := tableParsesRow.holds Tryd.pinned (OpenSpec.ofChange tableParsesSpec)

/-- ITS FALSE NEIGHBOUR: 'it returns false'. Refute it at one input. -/
def tableParsesWrong : ChangeSpec := { name := "tableParses", fn := fun _ => fun
  | [d1, d2] => { results := [.lit (.bool false)], args := [d1, d2] }
  | _ => none }
def TableParsesWrongFalsely : Prop := tableParsesRow.holds Tryd.pinned (OpenSpec.ofChange tableParsesWrong)

/-- 'marlstonelaw11.TableBack': WHATEVER THE INPUT: true; the input reads as it did. -/
def tableBackSpec : ChangeSpec := { name := "tableBack", fn := fun _ => fun
  | [d1, d2] => { results := [.lit (.bool true)], args := [d1, d2] }
  | _ => none }
def tableBackRow : OpenClaim := { program := "ytcgjhopfdpaocaadoor", sum := "384faf413ad81a3314dcf61f698c153446cf263abfd7413bcbbf8d1c21de87ff", func := "marlstone/marlstonelaw11.TableBack", spec := "tableBack", inPlace := ["internal/bytealg.abigen_runtime_cmpstring"], unfollowed := true, recurses := true, named := ["marlstone/sum.cubeRoots"], apart := false, laid := [("marlstone/sum.cubeRoots", laid_marlstone_sum_cubeRoots)] }
def TableBackSaid : Prop := tableBackRow.holds Tryd.pinned (OpenSpec.ofChange tableBackSpec)

/-- ITS FALSE NEIGHBOUR: 'it returns false'. Refute it at one input. -/
def tableBackWrong : ChangeSpec := { name := "tableBack", fn := fun _ => fun
  | [d1, d2] => { results := [.lit (.bool false)], args := [d1, d2] }
  | _ => none }
def TableBackWrongFalsely : Prop := tableBackRow.holds Tryd.pinned (OpenSpec.ofChange tableBackWrong)

/-- 'marlstonelaw11.TableOnce': WHATEVER THE INPUT: true; the input reads as it did. -/
def tableOnceSpec : ChangeSpec := { name := "tableOnce", fn := fun _ => fun
  | [d] => { results := [.lit (.bool true)], args := [d] }
  | _ => none }
def tableOnceRow : OpenClaim := { program := "ytcgjhopfdpaocaadoor", sum := "384faf413ad81a3314dcf61f698c153446cf263abfd7413bcbbf8d1c21de87ff", func := "marlstone/marlstonelaw11.TableOnce", spec := "tableOnce", unfollowed := true, recurses := true, named := ["marlstone/sum.cubeRoots"], apart := false, laid := [("marlstone/sum.cubeRoots", laid_marlstone_sum_cubeRoots)] }
def TableOnceSaid : Prop := tableOnceRow.holds Tryd.pinned (OpenSpec.ofChange tableOnceSpec)

/-- ITS FALSE NEIGHBOUR: 'it returns false'. Refute it at one input. -/
def tableOnceWrong : ChangeSpec := { name := "tableOnce", fn := fun _ => fun
  | [d] => { results := [.lit (.bool false)], args := [d] }
  | _ => none }
def TableOnceWrongFalsely : Prop := tableOnceRow.holds Tryd.pinned (OpenSpec.ofChange tableOnceWrong)

/-- 'marlstonelaw11.TableKnown': WHATEVER THE INPUT: true; the input reads as it did. -/
def tableKnownSpec : ChangeSpec := { name := "tableKnown", fn := fun _ => fun
  | [d1, d2, d3] => { results := [.lit (.bool true)], args := [d1, d2, d3] }
  | _ => none }
def tableKnownRow : OpenClaim := { program := "ytcgjhopfdpaocaadoor", sum := "384faf413ad81a3314dcf61f698c153446cf263abfd7413bcbbf8d1c21de87ff", func := "marlstone/marlstonelaw11.TableKnown", spec := "tableKnown", inPlace := ["internal/bytealg.abigen_runtime_cmpstring"], unfollowed := true, recurses := true, named := ["marlstone/sum.cubeRoots"], apart := false, laid := [("marlstone/sum.cubeRoots", laid_marlstone_sum_cubeRoots)] }
def TableKnownSaid : Prop := tableKnownRow.holds Tryd.pinned (OpenSpec.ofChange tableKnownSpec)

/-- ITS FALSE NEIGHBOUR: 'it returns false'. Refute it at one input. -/
def tableKnownWrong : ChangeSpec := { name := "tableKnown", fn := fun _ => fun
  | [d1, d2, d3] => { results := [.lit (.bool false)], args := [d1, d2, d3] }
  | _ => none }
def TableKnownWrongFalsely : Prop := tableKnownRow.holds Tryd.pinned (OpenSpec.ofChange tableKnownWrong)

/-- 'marlstonelaw11.TableBlocks': WHATEVER THE INPUT: true; the input reads as it did. -/
def tableBlocksSpec : ChangeSpec := { name := "tableBlocks", fn := fun _ => fun
  | [d] => { results := [.lit (.bool true)], args := [d] }
  | _ => none }
def tableBlocksRow : OpenClaim := { program := "ytcgjhopfdpaocaadoor", sum := "384faf413ad81a3314dcf61f698c153446cf263abfd7413bcbbf8d1c21de87ff", func := "marlstone/marlstonelaw11.TableBlocks", spec := "tableBlocks", inPlace := ["internal/bytealg.abigen_runtime_cmpstring"], unfollowed := true, recurses := true, named := ["marlstone/sum.cubeRoots"], apart := false, laid := [("marlstone/sum.cubeRoots", laid_marlstone_sum_cubeRoots)] }
def TableBlocksSaid : Prop := tableBlocksRow.holds Tryd.pinned (OpenSpec.ofChange tableBlocksSpec)

/-- ITS FALSE NEIGHBOUR: 'it returns false'. Refute it at one input. -/
def tableBlocksWrong : ChangeSpec := { name := "tableBlocks", fn := fun _ => fun
  | [d] => { results := [.lit (.bool false)], args := [d] }
  | _ => none }
def TableBlocksWrongFalsely : Prop := tableBlocksRow.holds Tryd.pinned (OpenSpec.ofChange tableBlocksWrong)

/-- 'marlstonelaw11.TableCuts': WHATEVER THE INPUT: true; the input reads as it did. -/
def tableCutsSpec : ChangeSpec := { name := "tableCuts", fn := fun _ => fun
  | [d1, d2, d3] => { results := [.lit (.bool true)], args := [d1, d2, d3] }
  | _ => none }
def tableCutsRow : OpenClaim := { program := "ytcgjhopfdpaocaadoor", sum := "384faf413ad81a3314dcf61f698c153446cf263abfd7413bcbbf8d1c21de87ff", func := "marlstone/marlstonelaw11.TableCuts", spec := "tableCuts", inPlace := ["internal/bytealg.abigen_runtime_cmpstring"], unfollowed := true, recurses := true, named := ["marlstone/sum.cubeRoots"], apart := false, laid := [("marlstone/sum.cubeRoots", laid_marlstone_sum_cubeRoots)] }
def TableCutsSaid : Prop := tableCutsRow.holds Tryd.pinned (OpenSpec.ofChange tableCutsSpec)

/-- ITS FALSE NEIGHBOUR: 'it returns false'. Refute it at one input. -/
def tableCutsWrong : ChangeSpec := { name := "tableCuts", fn := fun _ => fun
  | [d1, d2, d3] => { results := [.lit (.bool false)], args := [d1, d2, d3] }
  | _ => none }
def TableCutsWrongFalsely : Prop := tableCutsRow.holds Tryd.pinned (OpenSpec.ofChange tableCutsWrong)

/-- 'marlstonelaw11.TableLevels': WHATEVER THE INPUT: true; the input reads as it did. -/
def tableLevelsSpec : ChangeSpec := { name := "tableLevels", fn := fun _ => fun
  | [d1, d2, d3, d4] => { results := [.lit (.bool true)], args := [d1, d2, d3, d4] }
  | _ => none }
def tableLevelsRow : OpenClaim := { program := "ytcgjhopfdpaocaadoor", sum := "384faf413ad81a3314dcf61f698c153446cf263abfd7413bcbbf8d1c21de87ff", func := "marlstone/marlstonelaw11.TableLevels", spec := "tableLevels", inPlace := ["internal/bytealg.abigen_runtime_cmpstring"], unfollowed := true, recurses := true, named := ["marlstone/sum.cubeRoots"], apart := false, laid := [("marlstone/sum.cubeRoots", laid_marlstone_sum_cubeRoots)] }
def TableLevelsSaid : Prop := tableLevelsRow.holds Tryd.pinned (OpenSpec.ofChange tableLevelsSpec)

/-- ITS FALSE NEIGHBOUR: 'it returns false'. Refute it at one input. -/
def tableLevelsWrong : ChangeSpec := { name := "tableLevels", fn := fun _ => fun
  | [d1, d2, d3, d4] => { results := [.lit (.bool false)], args := [d1, d2, d3, d4] }
  | _ => none }
def TableLevelsWrongFalsely : Prop := tableLevelsRow.holds Tryd.pinned (OpenSpec.ofChange tableLevelsWrong)

/- THE SECOND FORM. 'bulk': how many values and letters a reading holds, each counted each time it is reached (what is shared counts as often as it is met; a slice's spare places count too). A statement '..UptoSaid' is the law's where the arguments, and the package variables that the reading takes, are together of bulk at most 1048576: NARROWER than '..Said'. Prove '..Said' where nothing that the law and all that it calls make is longer than what came in: it says more and counts as full. Else prove '..UptoSaid'. A law counts once. -/
mutual
def uptoBulk {H : Type} : DataW H → Nat
  | .lit (.string bytes) => bytes.length + 1
  | .lit _ => 1
  | .nil => 1
  | .ptr d => uptoBulk d + 1
  | .slice elems spare => uptoBulkAll elems + uptoBulkAll spare + 1
  | .agg parts => uptoBulkAll parts + 1
  | .iface _ d => uptoBulk d + 1
  | .map entries => uptoBulkEntries entries + 1
  | .held _ => 1
def uptoBulkAll {H : Type} : List (DataW H) → Nat
  | [] => 0
  | d :: r => uptoBulk d + uptoBulkAll r
def uptoBulkEntries {H : Type} : List (Lit × DataW H) → Nat
  | [] => 0
  | x :: r => uptoBulkEntry x + uptoBulkEntries r
def uptoBulkEntry {H : Type} : Lit × DataW H → Nat
  | (.string bytes, d) => bytes.length + uptoBulk d + 1
  | (_, d) => uptoBulk d + 1
 end
def uptoSmall : (H : Type) → List (DataW H) → Bool := fun _ ds => decide (uptoBulkAll ds ≤ 1048576)
def OpenSpec.upto (s : _root_.Go.ChangeSpec) : _root_.Go.OpenSpec := { _root_.Go.OpenSpec.ofChange s with cond := some uptoSmall }

/-- 'marlstonelaw11.TableBytes', WHERE WHAT IT READS IS OF BULK AT MOST 1048576: true; the input reads as it did. -/
def tableBytesUptoRow : OpenClaim := { program := "ytcgjhopfdpaocaadoor", sum := "384faf413ad81a3314dcf61f698c153446cf263abfd7413bcbbf8d1c21de87ff", func := "marlstone/marlstonelaw11.TableBytes", spec := "tableBytes", unfollowed := true, recurses := true, named := ["marlstone/sum.cubeRoots"], apart := false, laid := [("marlstone/sum.cubeRoots", laid_marlstone_sum_cubeRoots)], narrowed := true }
def TableBytesUptoSaid : Prop := tableBytesUptoRow.holds Tryd.pinned (OpenSpec.upto tableBytesSpec)

/-- 'marlstonelaw11.TableParses', WHERE WHAT IT READS IS OF BULK AT MOST 1048576: true; the input reads as it did. -/
def tableParsesUptoRow : OpenClaim := { program := "ytcgjhopfdpaocaadoor", sum := "384faf413ad81a3314dcf61f698c153446cf263abfd7413bcbbf8d1c21de87ff", func := "marlstone/marlstonelaw11.TableParses", spec := "tableParses", unfollowed := true, recurses := true, named := ["marlstone/sum.cubeRoots"], apart := false, laid := [("marlstone/sum.cubeRoots", laid_marlstone_sum_cubeRoots)], narrowed := true }
def TableParsesUptoSaid : Prop := tableParsesUptoRow.holds Tryd.pinned (OpenSpec.upto tableParsesSpec)

/-- 'marlstonelaw11.TableBack', WHERE WHAT IT READS IS OF BULK AT MOST 1048576: true; the input reads as it did. -/
def tableBackUptoRow : OpenClaim := { program := "ytcgjhopfdpaocaadoor", sum := "384faf413ad81a3314dcf61f698c153446cf263abfd7413bcbbf8d1c21de87ff", func := "marlstone/marlstonelaw11.TableBack", spec := "tableBack", inPlace := ["internal/bytealg.abigen_runtime_cmpstring"], unfollowed := true, recurses := true, named := ["marlstone/sum.cubeRoots"], apart := false, laid := [("marlstone/sum.cubeRoots", laid_marlstone_sum_cubeRoots)], narrowed := true }
def TableBackUptoSaid : Prop := tableBackUptoRow.holds Tryd.pinned (OpenSpec.upto tableBackSpec)

/-- 'marlstonelaw11.TableOnce', WHERE WHAT IT READS IS OF BULK AT MOST 1048576: true; the input reads as it did. -/
def tableOnceUptoRow : OpenClaim := { program := "ytcgjhopfdpaocaadoor", sum := "384faf413ad81a3314dcf61f698c153446cf263abfd7413bcbbf8d1c21de87ff", func := "marlstone/marlstonelaw11.TableOnce", spec := "tableOnce", unfollowed := true, recurses := true, named := ["marlstone/sum.cubeRoots"], apart := false, laid := [("marlstone/sum.cubeRoots", laid_marlstone_sum_cubeRoots)], narrowed := true }
def TableOnceUptoSaid : Prop := tableOnceUptoRow.holds Tryd.pinned (OpenSpec.upto tableOnceSpec)

/-- 'marlstonelaw11.TableKnown', WHERE WHAT IT READS IS OF BULK AT MOST 1048576: true; the input reads as it did. -/
def tableKnownUptoRow : OpenClaim := { program := "ytcgjhopfdpaocaadoor", sum := "384faf413ad81a3314dcf61f698c153446cf263abfd7413bcbbf8d1c21de87ff", func := "marlstone/marlstonelaw11.TableKnown", spec := "tableKnown", inPlace := ["internal/bytealg.abigen_runtime_cmpstring"], unfollowed := true, recurses := true, named := ["marlstone/sum.cubeRoots"], apart := false, laid := [("marlstone/sum.cubeRoots", laid_marlstone_sum_cubeRoots)], narrowed := true }
def TableKnownUptoSaid : Prop := tableKnownUptoRow.holds Tryd.pinned (OpenSpec.upto tableKnownSpec)

/-- 'marlstonelaw11.TableBlocks', WHERE WHAT IT READS IS OF BULK AT MOST 1048576: true; the input reads as it did. -/
def tableBlocksUptoRow : OpenClaim := { program := "ytcgjhopfdpaocaadoor", sum := "384faf413ad81a3314dcf61f698c153446cf263abfd7413bcbbf8d1c21de87ff", func := "marlstone/marlstonelaw11.TableBlocks", spec := "tableBlocks", inPlace := ["internal/bytealg.abigen_runtime_cmpstring"], unfollowed := true, recurses := true, named := ["marlstone/sum.cubeRoots"], apart := false, laid := [("marlstone/sum.cubeRoots", laid_marlstone_sum_cubeRoots)], narrowed := true }
def TableBlocksUptoSaid : Prop := tableBlocksUptoRow.holds Tryd.pinned (OpenSpec.upto tableBlocksSpec)

/-- 'marlstonelaw11.TableCuts', WHERE WHAT IT READS IS OF BULK AT MOST 1048576: true; the input reads as it did. -/
def tableCutsUptoRow : OpenClaim := { program := "ytcgjhopfdpaocaadoor", sum := "384faf413ad81a3314dcf61f698c153446cf263abfd7413bcbbf8d1c21de87ff", func := "marlstone/marlstonelaw11.TableCuts", spec := "tableCuts", inPlace := ["internal/bytealg.abigen_runtime_cmpstring"], unfollowed := true, recurses := true, named := ["marlstone/sum.cubeRoots"], apart := false, laid := [("marlstone/sum.cubeRoots", laid_marlstone_sum_cubeRoots)], narrowed := true }
def TableCutsUptoSaid : Prop := tableCutsUptoRow.holds Tryd.pinned (OpenSpec.upto tableCutsSpec)

/-- 'marlstonelaw11.TableLevels', WHERE WHAT IT READS IS OF BULK AT MOST 1048576: true; the input reads as it did. -/
def tableLevelsUptoRow : OpenClaim := { program := "ytcgjhopfdpaocaadoor", sum := "384faf413ad81a3314dcf61f698c153446cf263abfd7413bcbbf8d1c21de87ff", func := "marlstone/marlstonelaw11.TableLevels", spec := "tableLevels", inPlace := ["internal/bytealg.abigen_runtime_cmpstring"], unfollowed := true, recurses := true, named := ["marlstone/sum.cubeRoots"], apart := false, laid := [("marlstone/sum.cubeRoots", laid_marlstone_sum_cubeRoots)], narrowed := true }
def TableLevelsUptoSaid : Prop := tableLevelsUptoRow.holds Tryd.pinned (OpenSpec.upto tableLevelsSpec)

end Rows
end Go.Proofs.YtcgjhopfdpaocaaDoor
