/-
  Right, Bytes and Digest answer of any tables what the document's own answers: the same bytes or none, the same digest or none, the same errors; what was handed in stays: proved for any tables (of which at most sixty, each of whose keys cut to 130 bytes, are taken) and any number of bits, without conditions.
-/
import Derived.Test.YtiimmknnlciljaaDoorRows
import Derived.Test.YtiimmknnlciljaaDoorCards
import Derived.Test.YtiimmknnlciljaaDoorTie
import Derived.Test.YtiimmknnlciljaaDoorSummaryBytesLift
import Derived.ShutString
import Derived.SevenTiedAt
namespace Go.Proofs.YtiimmknnlciljaaDoor
namespace SummaryBytesWalk
open Go.ChangeShapes Go.WideShapes Go.ChangeAt Go.RowKit
set_option maxRecDepth 100000 in
theorem cl_inPlace : (Rows.summaryBytesRow.inPlace == Tryd.prog.inPlace 3) = true := by kernel_rfl
set_option maxRecDepth 100000 in
theorem cl_unfollowed : (Rows.summaryBytesRow.unfollowed == Tryd.prog.unfollowed 3) = true := by kernel_rfl
set_option maxRecDepth 100000 in
theorem cl_recurses : (Rows.summaryBytesRow.recurses == Tryd.prog.recurses 3) = true := by kernel_rfl
set_option maxRecDepth 100000 in
theorem cl_varsNamed : (Rows.summaryBytesRow.named == Tryd.prog.varsNamed 3) = true := by kernel_rfl
set_option maxRecDepth 100000 in
theorem closed : joinedFacts Tryd.prog 3 Tryd.f3 Rows.summaryBytesSpec Rows.summaryBytesRow = true := by
  unfold joinedFacts
  rw [cl_inPlace, cl_unfollowed, cl_recurses, cl_varsNamed]
  kernel_rfl
theorem over : Rows.SummaryBytesSaid :=
  OpenClaim.holds_of_wide 3 Tryd.f3 rfl rfl rfl rfl rfl rfl rfl ⟨rfl, rfl, rfl, rfl, rfl⟩ rfl rfl rfl rfl rfl (by kernel_rfl) Tryd.func3 closed
    (of_decide_eq_true (by kernel_rfl)) (by unfold Func.isWrapper; first | (rw [if_pos (by decide +kernel)]; kernel_rfl) | (rw [if_neg (by decide +kernel)]; exact ⟨rfl, rfl⟩))
    (fun os started H enc _ => lifted os started H enc)
end SummaryBytesWalk
/-- The statement. -/
theorem summaryBytes_holds : Rows.SummaryBytesCardSaid :=
  Claim7.holds_tied_plain_at .later [] [.data] true (true, "149479f12dfa0d493e3348b505bb637ce75bf490313d44cd1ef59b1acd0eb049") false
    SummaryBytesWalk.over (fun _ h => by cases h) (by kernel_rfl) (fun _ h => by cases h) summaryBytes_row_tie rfl ⟨rfl, rfl⟩ (by kernel_rfl) rfl
    (fun f fn hf hfn => by
      obtain rfl : f = 3 := Option.some.inj ((show Tryd.prog.funcNamed "marlstone/marlstonelaw14.SummaryBytes" = some 3 by kernel_rfl).symm.trans hf) |>.symm
      obtain rfl : fn = Tryd.f3 := (Option.some.inj (Tryd.func3.symm.trans hfn)).symm
      exact ⟨by kernel_rfl, fun j t ht => by
        rw [Tryd.params3] at ht
        have hm : t ∈ ([22, 3] : List TypeId) := List.mem_of_getElem? (by simpa using ht)
        simp only [List.mem_cons, List.not_mem_nil, or_false] at hm
        rcases hm with rfl | rfl <;> exact (show Tryd.prog.wantsStandIn _ = false by kernel_rfl)⟩)
    (by kernel_rfl)
#print axioms summaryBytes_holds
end Go.Proofs.YtiimmknnlciljaaDoor
