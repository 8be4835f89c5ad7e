/-
  A right list that is cut is right on both sides of the cut; with a table of level 0 behind it, it is right just if its last table is of level 0, or there is none: proved for any tables (of which at most sixty, each of whose keys cut to 130 bytes, are taken) and any number, without conditions.
-/
import Derived.Test.YtiimmknnlciljaaDoorRows
import Derived.Test.YtiimmknnlciljaaDoorCards
import Derived.Test.YtiimmknnlciljaaDoorTie
import Derived.Test.YtiimmknnlciljaaDoorSummaryPartsLift
import Derived.ShutString
import Derived.SevenTiedAt
namespace Go.Proofs.YtiimmknnlciljaaDoor
namespace SummaryPartsWalk
open Go.ChangeShapes Go.WideShapes Go.ChangeAt Go.RowKit
set_option maxRecDepth 100000 in
theorem cl_inPlace : (Rows.summaryPartsRow.inPlace == Tryd.prog.inPlace 9) = true := by kernel_rfl
set_option maxRecDepth 100000 in
theorem cl_unfollowed : (Rows.summaryPartsRow.unfollowed == Tryd.prog.unfollowed 9) = true := by kernel_rfl
set_option maxRecDepth 100000 in
theorem cl_recurses : (Rows.summaryPartsRow.recurses == Tryd.prog.recurses 9) = true := by kernel_rfl
set_option maxRecDepth 100000 in
theorem cl_varsNamed : (Rows.summaryPartsRow.named == Tryd.prog.varsNamed 9) = true := by kernel_rfl
set_option maxRecDepth 100000 in
theorem closed : joinedFacts Tryd.prog 9 Tryd.f9 Rows.summaryPartsSpec Rows.summaryPartsRow = true := by
  unfold joinedFacts
  rw [cl_inPlace, cl_unfollowed, cl_recurses, cl_varsNamed]
  kernel_rfl
theorem over : Rows.SummaryPartsSaid :=
  OpenClaim.holds_of_wide 9 Tryd.f9 rfl rfl rfl rfl rfl rfl rfl ⟨rfl, rfl, rfl, rfl, rfl⟩ rfl rfl rfl rfl rfl (by kernel_rfl) Tryd.func9 closed
    (of_decide_eq_true (by kernel_rfl)) (by unfold Func.isWrapper; first | (rw [if_pos (by decide +kernel)]; kernel_rfl) | (rw [if_neg (by decide +kernel)]; exact ⟨rfl, rfl⟩))
    (fun os started H enc _ => lifted os started H enc)
end SummaryPartsWalk
/-- The statement. -/
theorem summaryParts_holds : Rows.SummaryPartsCardSaid :=
  Claim7.holds_tied_plain_at .later [] [.data] true (true, "149479f12dfa0d493e3348b505bb637ce75bf490313d44cd1ef59b1acd0eb049") false
    SummaryPartsWalk.over (fun _ h => by cases h) (by kernel_rfl) (fun _ h => by cases h) summaryParts_row_tie rfl ⟨rfl, rfl⟩ (by kernel_rfl) rfl
    (fun f fn hf hfn => by
      obtain rfl : f = 9 := Option.some.inj ((show Tryd.prog.funcNamed "marlstone/marlstonelaw14.SummaryParts" = some 9 by kernel_rfl).symm.trans hf) |>.symm
      obtain rfl : fn = Tryd.f9 := (Option.some.inj (Tryd.func9.symm.trans hfn)).symm
      exact ⟨by kernel_rfl, fun j t ht => by
        rw [Tryd.params9] at ht
        have hm : t ∈ ([22, 3] : List TypeId) := List.mem_of_getElem? (by simpa using ht)
        simp only [List.mem_cons, List.not_mem_nil, or_false] at hm
        rcases hm with rfl | rfl <;> exact (show Tryd.prog.wantsStandIn _ = false by kernel_rfl)⟩)
    (by kernel_rfl)
#print axioms summaryParts_holds
end Go.Proofs.YtiimmknnlciljaaDoor
