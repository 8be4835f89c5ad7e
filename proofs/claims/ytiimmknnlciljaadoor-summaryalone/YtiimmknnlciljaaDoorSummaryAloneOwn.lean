/-
  A list of one table is right just if its level is from 0 to 3, its count from 1 to 64, its keys have from 1 to 128 bytes, and they are one key with a count of 1, and rising else: proved for any table (each of whose keys is cut to 130 bytes), without conditions.
-/
import Derived.Test.YtiimmknnlciljaaDoorRows
import Derived.Test.YtiimmknnlciljaaDoorCards
import Derived.Test.YtiimmknnlciljaaDoorTie
import Derived.Test.YtiimmknnlciljaaDoorSummaryAloneLift
import Derived.ShutString
import Derived.SevenTiedAt
namespace Go.Proofs.YtiimmknnlciljaaDoor
namespace SummaryAloneWalk
open Go.ChangeShapes Go.WideShapes Go.ChangeAt Go.RowKit
set_option maxRecDepth 100000 in
theorem cl_inPlace : (Rows.summaryAloneRow.inPlace == Tryd.prog.inPlace 10) = true := by kernel_rfl
set_option maxRecDepth 100000 in
theorem cl_unfollowed : (Rows.summaryAloneRow.unfollowed == Tryd.prog.unfollowed 10) = true := by kernel_rfl
set_option maxRecDepth 100000 in
theorem cl_recurses : (Rows.summaryAloneRow.recurses == Tryd.prog.recurses 10) = true := by kernel_rfl
set_option maxRecDepth 100000 in
theorem cl_varsNamed : (Rows.summaryAloneRow.named == Tryd.prog.varsNamed 10) = true := by kernel_rfl
set_option maxRecDepth 100000 in
theorem closed : joinedFacts Tryd.prog 10 Tryd.f10 Rows.summaryAloneSpec Rows.summaryAloneRow = true := by
  unfold joinedFacts
  rw [cl_inPlace, cl_unfollowed, cl_recurses, cl_varsNamed]
  kernel_rfl
theorem over : Rows.SummaryAloneSaid :=
  OpenClaim.holds_of_wide 10 Tryd.f10 rfl rfl rfl rfl rfl rfl rfl ⟨rfl, rfl, rfl, rfl, rfl⟩ rfl rfl rfl rfl rfl (by kernel_rfl) Tryd.func10 closed
    (of_decide_eq_true (by kernel_rfl)) (by unfold Func.isWrapper; first | (rw [if_pos (by decide +kernel)]; kernel_rfl) | (rw [if_neg (by decide +kernel)]; exact ⟨rfl, rfl⟩))
    (fun os started H enc _ => lifted os started H enc)
end SummaryAloneWalk
/-- The statement. -/
theorem summaryAlone_holds : Rows.SummaryAloneCardSaid :=
  Claim7.holds_tied_plain_at .later [] [.data] true (true, "149479f12dfa0d493e3348b505bb637ce75bf490313d44cd1ef59b1acd0eb049") false
    SummaryAloneWalk.over (fun _ h => by cases h) (by kernel_rfl) (fun _ h => by cases h) summaryAlone_row_tie rfl ⟨rfl, rfl⟩ (by kernel_rfl) rfl
    (fun f fn hf hfn => by
      obtain rfl : f = 10 := Option.some.inj ((show Tryd.prog.funcNamed "marlstone/marlstonelaw14.SummaryAlone" = some 10 by kernel_rfl).symm.trans hf) |>.symm
      obtain rfl : fn = Tryd.f10 := (Option.some.inj (Tryd.func10.symm.trans hfn)).symm
      exact ⟨by kernel_rfl, fun j t ht => by
        rw [Tryd.params10] at ht
        have hm : t ∈ ([51] : List TypeId) := List.mem_of_getElem? (by simpa using ht)
        simp only [List.mem_cons, List.not_mem_nil, or_false] at hm
        rcases hm with rfl <;> exact (show Tryd.prog.wantsStandIn _ = false by kernel_rfl)⟩)
    (by kernel_rfl)
#print axioms summaryAlone_holds
end Go.Proofs.YtiimmknnlciljaaDoor
