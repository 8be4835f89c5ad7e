/-
  NARROWER THAN 'FOR EVERY INPUT', by the rows' own cells (each row's printed sentence says how): SumOf: laid · SumChecks: laid · SumPieces: laid · SumKept: laid · SumBursts: laid · SumDigits: laid.
  DERIVED. THE GIVEN ROWS OF THIS SEAT. 6 by the template 'for every input the law returns true; each argument reads behind the call as it read before'; 0 by the template 'total and deterministic' (their statements: YtdlkaeegcagkpaaDoorTotals.lean).
  GIVEN WITH THE SEED: the statements are not yours to turn. If you find one false, say at which input.
  Laid BY PROGRAM, IN A SANDBOX (cutbox-rows.mjs): the forced cells as the released guide's own fill.sh prints them over the translation eb9c5c67a50eb38b… (all of the seat's roots in one cut). By AI agents, Wed Nov 11 2026. No macro, syntax, notation, axiom, sorry.
-/
import Derived.Test.YtdlkaeegcagkpaaDoorChecked
import GoSem.Claim
import GoSem.ClaimJoined
import GoSem.ClaimMapViews
import Derived.JoinedTies
import Derived.KernelRfl
namespace Go.Proofs.YtdlkaeegcagkpaaDoor
/- THE CELL 'sum', in the pinned program and in every row, IS THE sha256 OF THE DUMP (.gsa) THAT YtdlkaeegcagkpaaDoorProg.lean LOADS. Nothing in Lean hashes anything: it is a label: what it is worth is what the hold of that sum in a sandbox is worth. -/
noncomputable def Tryd.pinned : Pinned := { name := "ytdlkaeegcagkpaadoor", sum := "eb9c5c67a50eb38bd42b2b7fc2ab3cffdfb9df751a1a0dcbe6e3bb611c28157f", checked := Tryd.checked }
namespace Rows
def none {H : Type} : Left H := { results := [], args := [] }

/- WHAT THE LISTED PACKAGE-LEVEL VARIABLES READ AS WHEN THE CALL BEGINS. Each datum BY PROGRAM (the guide's laid-datum.mjs) off the statement by which the dump's own 'gosem.cut.vars' lays the variable. In a bare row this is a premise. The card (YtdlkaeegcagkpaaDoorCards.lean) ties it to the program's text. -/
def laid_marlstone_sum_cubeRoots {H : Type} : DataW H := .agg [.lit (.int .u32 1116352408), .lit (.int .u32 1899447441), .lit (.int .u32 3049323471), .lit (.int .u32 3921009573), .lit (.int .u32 961987163), .lit (.int .u32 1508970993), .lit (.int .u32 2453635748), .lit (.int .u32 2870763221), .lit (.int .u32 3624381080), .lit (.int .u32 310598401), .lit (.int .u32 607225278), .lit (.int .u32 1426881987), .lit (.int .u32 1925078388), .lit (.int .u32 2162078206), .lit (.int .u32 2614888103), .lit (.int .u32 3248222580), .lit (.int .u32 3835390401), .lit (.int .u32 4022224774), .lit (.int .u32 264347078), .lit (.int .u32 604807628), .lit (.int .u32 770255983), .lit (.int .u32 1249150122), .lit (.int .u32 1555081692), .lit (.int .u32 1996064986), .lit (.int .u32 2554220882), .lit (.int .u32 2821834349), .lit (.int .u32 2952996808), .lit (.int .u32 3210313671), .lit (.int .u32 3336571891), .lit (.int .u32 3584528711), .lit (.int .u32 113926993), .lit (.int .u32 338241895), .lit (.int .u32 666307205), .lit (.int .u32 773529912), .lit (.int .u32 1294757372), .lit (.int .u32 1396182291), .lit (.int .u32 1695183700), .lit (.int .u32 1986661051), .lit (.int .u32 2177026350), .lit (.int .u32 2456956037), .lit (.int .u32 2730485921), .lit (.int .u32 2820302411), .lit (.int .u32 3259730800), .lit (.int .u32 3345764771), .lit (.int .u32 3516065817), .lit (.int .u32 3600352804), .lit (.int .u32 4094571909), .lit (.int .u32 275423344), .lit (.int .u32 430227734), .lit (.int .u32 506948616), .lit (.int .u32 659060556), .lit (.int .u32 883997877), .lit (.int .u32 958139571), .lit (.int .u32 1322822218), .lit (.int .u32 1537002063), .lit (.int .u32 1747873779), .lit (.int .u32 1955562222), .lit (.int .u32 2024104815), .lit (.int .u32 2227730452), .lit (.int .u32 2361852424), .lit (.int .u32 2428436474), .lit (.int .u32 2756734187), .lit (.int .u32 3204031479), .lit (.int .u32 3329325298)]

/-- 'marlstonelaw02.SumOf': WHATEVER THE INPUT: true; the input reads as it did. -/
def sumOfSpec : ChangeSpec := { name := "sumOf", fn := fun _ => fun
  | [d1, d2] => { results := [.lit (.bool true)], args := [d1, d2] }
  | _ => none }
def sumOfRow : OpenClaim := { program := "ytdlkaeegcagkpaadoor", sum := "eb9c5c67a50eb38bd42b2b7fc2ab3cffdfb9df751a1a0dcbe6e3bb611c28157f", func := "marlstone/marlstonelaw02.SumOf", spec := "sumOf", named := ["marlstone/sum.cubeRoots"], apart := false, laid := [("marlstone/sum.cubeRoots", laid_marlstone_sum_cubeRoots)] }
def SumOfSaid : Prop := sumOfRow.holds Tryd.pinned (OpenSpec.ofChange sumOfSpec)

/-- ITS FALSE NEIGHBOUR: 'it returns false'. Refute it at one input. -/
def sumOfWrong : ChangeSpec := { name := "sumOf", fn := fun _ => fun
  | [d1, d2] => { results := [.lit (.bool false)], args := [d1, d2] }
  | _ => none }
def SumOfWrongFalsely : Prop := sumOfRow.holds Tryd.pinned (OpenSpec.ofChange sumOfWrong)

/-- 'marlstonelaw02.SumChecks': WHATEVER THE INPUT: true; the input reads as it did. -/
def sumChecksSpec : ChangeSpec := { name := "sumChecks", fn := fun _ => fun
  | [d1, d2] => { results := [.lit (.bool true)], args := [d1, d2] }
  | _ => none }
def sumChecksRow : OpenClaim := { program := "ytdlkaeegcagkpaadoor", sum := "eb9c5c67a50eb38bd42b2b7fc2ab3cffdfb9df751a1a0dcbe6e3bb611c28157f", func := "marlstone/marlstonelaw02.SumChecks", spec := "sumChecks", named := ["marlstone/sum.cubeRoots"], apart := false, laid := [("marlstone/sum.cubeRoots", laid_marlstone_sum_cubeRoots)] }
def SumChecksSaid : Prop := sumChecksRow.holds Tryd.pinned (OpenSpec.ofChange sumChecksSpec)

/-- ITS FALSE NEIGHBOUR: 'it returns false'. Refute it at one input. -/
def sumChecksWrong : ChangeSpec := { name := "sumChecks", fn := fun _ => fun
  | [d1, d2] => { results := [.lit (.bool false)], args := [d1, d2] }
  | _ => none }
def SumChecksWrongFalsely : Prop := sumChecksRow.holds Tryd.pinned (OpenSpec.ofChange sumChecksWrong)

/-- 'marlstonelaw02.SumPieces': WHATEVER THE INPUT: true; the input reads as it did. -/
def sumPiecesSpec : ChangeSpec := { name := "sumPieces", fn := fun _ => fun
  | [d] => { results := [.lit (.bool true)], args := [d] }
  | _ => none }
def sumPiecesRow : OpenClaim := { program := "ytdlkaeegcagkpaadoor", sum := "eb9c5c67a50eb38bd42b2b7fc2ab3cffdfb9df751a1a0dcbe6e3bb611c28157f", func := "marlstone/marlstonelaw02.SumPieces", spec := "sumPieces", named := ["marlstone/sum.cubeRoots"], apart := false, laid := [("marlstone/sum.cubeRoots", laid_marlstone_sum_cubeRoots)] }
def SumPiecesSaid : Prop := sumPiecesRow.holds Tryd.pinned (OpenSpec.ofChange sumPiecesSpec)

/-- ITS FALSE NEIGHBOUR: 'it returns false'. Refute it at one input. -/
def sumPiecesWrong : ChangeSpec := { name := "sumPieces", fn := fun _ => fun
  | [d] => { results := [.lit (.bool false)], args := [d] }
  | _ => none }
def SumPiecesWrongFalsely : Prop := sumPiecesRow.holds Tryd.pinned (OpenSpec.ofChange sumPiecesWrong)

/-- 'marlstonelaw02.SumKept': WHATEVER THE INPUT: true; the input reads as it did. -/
def sumKeptSpec : ChangeSpec := { name := "sumKept", fn := fun _ => fun
  | [d1, d2, d3] => { results := [.lit (.bool true)], args := [d1, d2, d3] }
  | _ => none }
def sumKeptRow : OpenClaim := { program := "ytdlkaeegcagkpaadoor", sum := "eb9c5c67a50eb38bd42b2b7fc2ab3cffdfb9df751a1a0dcbe6e3bb611c28157f", func := "marlstone/marlstonelaw02.SumKept", spec := "sumKept", named := ["marlstone/sum.cubeRoots"], apart := false, laid := [("marlstone/sum.cubeRoots", laid_marlstone_sum_cubeRoots)] }
def SumKeptSaid : Prop := sumKeptRow.holds Tryd.pinned (OpenSpec.ofChange sumKeptSpec)

/-- ITS FALSE NEIGHBOUR: 'it returns false'. Refute it at one input. -/
def sumKeptWrong : ChangeSpec := { name := "sumKept", fn := fun _ => fun
  | [d1, d2, d3] => { results := [.lit (.bool false)], args := [d1, d2, d3] }
  | _ => none }
def SumKeptWrongFalsely : Prop := sumKeptRow.holds Tryd.pinned (OpenSpec.ofChange sumKeptWrong)

/-- 'marlstonelaw02.SumBursts': WHATEVER THE INPUT: true; the input reads as it did. -/
def sumBurstsSpec : ChangeSpec := { name := "sumBursts", fn := fun _ => fun
  | [d1, d2, d3] => { results := [.lit (.bool true)], args := [d1, d2, d3] }
  | _ => none }
def sumBurstsRow : OpenClaim := { program := "ytdlkaeegcagkpaadoor", sum := "eb9c5c67a50eb38bd42b2b7fc2ab3cffdfb9df751a1a0dcbe6e3bb611c28157f", func := "marlstone/marlstonelaw02.SumBursts", spec := "sumBursts", named := ["marlstone/sum.cubeRoots"], apart := false, laid := [("marlstone/sum.cubeRoots", laid_marlstone_sum_cubeRoots)] }
def SumBurstsSaid : Prop := sumBurstsRow.holds Tryd.pinned (OpenSpec.ofChange sumBurstsSpec)

/-- ITS FALSE NEIGHBOUR: 'it returns false'. Refute it at one input. -/
def sumBurstsWrong : ChangeSpec := { name := "sumBursts", fn := fun _ => fun
  | [d1, d2, d3] => { results := [.lit (.bool false)], args := [d1, d2, d3] }
  | _ => none }
def SumBurstsWrongFalsely : Prop := sumBurstsRow.holds Tryd.pinned (OpenSpec.ofChange sumBurstsWrong)

/-- 'marlstonelaw02.SumDigits': WHATEVER THE INPUT: true; the input reads as it did. -/
def sumDigitsSpec : ChangeSpec := { name := "sumDigits", fn := fun _ => fun
  | [d] => { results := [.lit (.bool true)], args := [d] }
  | _ => none }
def sumDigitsRow : OpenClaim := { program := "ytdlkaeegcagkpaadoor", sum := "eb9c5c67a50eb38bd42b2b7fc2ab3cffdfb9df751a1a0dcbe6e3bb611c28157f", func := "marlstone/marlstonelaw02.SumDigits", spec := "sumDigits", named := ["marlstone/sum.cubeRoots"], apart := false, laid := [("marlstone/sum.cubeRoots", laid_marlstone_sum_cubeRoots)] }
def SumDigitsSaid : Prop := sumDigitsRow.holds Tryd.pinned (OpenSpec.ofChange sumDigitsSpec)

/-- ITS FALSE NEIGHBOUR: 'it returns false'. Refute it at one input. -/
def sumDigitsWrong : ChangeSpec := { name := "sumDigits", fn := fun _ => fun
  | [d] => { results := [.lit (.bool false)], args := [d] }
  | _ => none }
def SumDigitsWrongFalsely : Prop := sumDigitsRow.holds Tryd.pinned (OpenSpec.ofChange sumDigitsWrong)

/- THE SECOND FORM. 'bulk': how many values and letters a reading holds, each counted each time it is reached (what is shared counts as often as it is met; a slice's spare places count too). A statement '..UptoSaid' is the law's where the arguments, and the package variables that the reading takes, are together of bulk at most 1048576: NARROWER than '..Said'. Prove '..Said' where nothing that the law and all that it calls make is longer than what came in: it says more and counts as full. Else prove '..UptoSaid'. A law counts once. -/
mutual
def uptoBulk {H : Type} : DataW H → Nat
  | .lit (.string bytes) => bytes.length + 1
  | .lit _ => 1
  | .nil => 1
  | .ptr d => uptoBulk d + 1
  | .slice elems spare => uptoBulkAll elems + uptoBulkAll spare + 1
  | .agg parts => uptoBulkAll parts + 1
  | .iface _ d => uptoBulk d + 1
  | .map entries => uptoBulkEntries entries + 1
  | .held _ => 1
def uptoBulkAll {H : Type} : List (DataW H) → Nat
  | [] => 0
  | d :: r => uptoBulk d + uptoBulkAll r
def uptoBulkEntries {H : Type} : List (Lit × DataW H) → Nat
  | [] => 0
  | x :: r => uptoBulkEntry x + uptoBulkEntries r
def uptoBulkEntry {H : Type} : Lit × DataW H → Nat
  | (.string bytes, d) => bytes.length + uptoBulk d + 1
  | (_, d) => uptoBulk d + 1
 end
def uptoSmall : (H : Type) → List (DataW H) → Bool := fun _ ds => decide (uptoBulkAll ds ≤ 1048576)
def OpenSpec.upto (s : _root_.Go.ChangeSpec) : _root_.Go.OpenSpec := { _root_.Go.OpenSpec.ofChange s with cond := some uptoSmall }

/-- 'marlstonelaw02.SumOf', WHERE WHAT IT READS IS OF BULK AT MOST 1048576: true; the input reads as it did. -/
def sumOfUptoRow : OpenClaim := { program := "ytdlkaeegcagkpaadoor", sum := "eb9c5c67a50eb38bd42b2b7fc2ab3cffdfb9df751a1a0dcbe6e3bb611c28157f", func := "marlstone/marlstonelaw02.SumOf", spec := "sumOf", named := ["marlstone/sum.cubeRoots"], apart := false, laid := [("marlstone/sum.cubeRoots", laid_marlstone_sum_cubeRoots)], narrowed := true }
def SumOfUptoSaid : Prop := sumOfUptoRow.holds Tryd.pinned (OpenSpec.upto sumOfSpec)

/-- 'marlstonelaw02.SumChecks', WHERE WHAT IT READS IS OF BULK AT MOST 1048576: true; the input reads as it did. -/
def sumChecksUptoRow : OpenClaim := { program := "ytdlkaeegcagkpaadoor", sum := "eb9c5c67a50eb38bd42b2b7fc2ab3cffdfb9df751a1a0dcbe6e3bb611c28157f", func := "marlstone/marlstonelaw02.SumChecks", spec := "sumChecks", named := ["marlstone/sum.cubeRoots"], apart := false, laid := [("marlstone/sum.cubeRoots", laid_marlstone_sum_cubeRoots)], narrowed := true }
def SumChecksUptoSaid : Prop := sumChecksUptoRow.holds Tryd.pinned (OpenSpec.upto sumChecksSpec)

/-- 'marlstonelaw02.SumPieces', WHERE WHAT IT READS IS OF BULK AT MOST 1048576: true; the input reads as it did. -/
def sumPiecesUptoRow : OpenClaim := { program := "ytdlkaeegcagkpaadoor", sum := "eb9c5c67a50eb38bd42b2b7fc2ab3cffdfb9df751a1a0dcbe6e3bb611c28157f", func := "marlstone/marlstonelaw02.SumPieces", spec := "sumPieces", named := ["marlstone/sum.cubeRoots"], apart := false, laid := [("marlstone/sum.cubeRoots", laid_marlstone_sum_cubeRoots)], narrowed := true }
def SumPiecesUptoSaid : Prop := sumPiecesUptoRow.holds Tryd.pinned (OpenSpec.upto sumPiecesSpec)

/-- 'marlstonelaw02.SumKept', WHERE WHAT IT READS IS OF BULK AT MOST 1048576: true; the input reads as it did. -/
def sumKeptUptoRow : OpenClaim := { program := "ytdlkaeegcagkpaadoor", sum := "eb9c5c67a50eb38bd42b2b7fc2ab3cffdfb9df751a1a0dcbe6e3bb611c28157f", func := "marlstone/marlstonelaw02.SumKept", spec := "sumKept", named := ["marlstone/sum.cubeRoots"], apart := false, laid := [("marlstone/sum.cubeRoots", laid_marlstone_sum_cubeRoots)], narrowed := true }
def SumKeptUptoSaid : Prop := sumKeptUptoRow.holds Tryd.pinned (OpenSpec.upto sumKeptSpec)

/-- 'marlstonelaw02.SumBursts', WHERE WHAT IT READS IS OF BULK AT MOST 1048576: true; the input reads as it did. -/
def sumBurstsUptoRow : OpenClaim := { program := "ytdlkaeegcagkpaadoor", sum := "eb9c5c67a50eb38bd42b2b7fc2ab3cffdfb9df751a1a0dcbe6e3bb611c28157f", func := "marlstone/marlstonelaw02.SumBursts", spec := "sumBursts", named := ["marlstone/sum.cubeRoots"], apart := false, laid := [("marlstone/sum.cubeRoots", laid_marlstone_sum_cubeRoots)], narrowed := true }
def SumBurstsUptoSaid : Prop := sumBurstsUptoRow.holds Tryd.pinned (OpenSpec.upto sumBurstsSpec)

/-- 'marlstonelaw02.SumDigits', WHERE WHAT IT READS IS OF BULK AT MOST 1048576: true; the input reads as it did. -/
def sumDigitsUptoRow : OpenClaim := { program := "ytdlkaeegcagkpaadoor", sum := "eb9c5c67a50eb38bd42b2b7fc2ab3cffdfb9df751a1a0dcbe6e3bb611c28157f", func := "marlstone/marlstonelaw02.SumDigits", spec := "sumDigits", named := ["marlstone/sum.cubeRoots"], apart := false, laid := [("marlstone/sum.cubeRoots", laid_marlstone_sum_cubeRoots)], narrowed := true }
def SumDigitsUptoSaid : Prop := sumDigitsUptoRow.holds Tryd.pinned (OpenSpec.upto sumDigitsSpec)

end Rows
end Go.Proofs.YtdlkaeegcagkpaaDoor
