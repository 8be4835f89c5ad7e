/-
  Bytes that Parse takes are just the bytes of what it tells, which is right; of others it tells nothing, and ErrForm: proved for any bytes (of which the first five thousand are looked at), without conditions.
-/
import Derived.Test.YtiimmknnlciljaaDoorRows
import Derived.Test.YtiimmknnlciljaaDoorCards
import Derived.Test.YtiimmknnlciljaaDoorTie
import Derived.Test.YtiimmknnlciljaaDoorSummaryOnceLift
import Derived.ShutString
import Derived.SevenTiedAt
namespace Go.Proofs.YtiimmknnlciljaaDoor
namespace SummaryOnceWalk
open Go.ChangeShapes Go.WideShapes Go.ChangeAt Go.RowKit
set_option maxRecDepth 100000 in
theorem cl_inPlace : (Rows.summaryOnceRow.inPlace == Tryd.prog.inPlace 7) = true := by kernel_rfl
set_option maxRecDepth 100000 in
theorem cl_unfollowed : (Rows.summaryOnceRow.unfollowed == Tryd.prog.unfollowed 7) = true := by kernel_rfl
set_option maxRecDepth 100000 in
theorem cl_recurses : (Rows.summaryOnceRow.recurses == Tryd.prog.recurses 7) = true := by kernel_rfl
set_option maxRecDepth 100000 in
theorem cl_varsNamed : (Rows.summaryOnceRow.named == Tryd.prog.varsNamed 7) = true := by kernel_rfl
set_option maxRecDepth 100000 in
theorem closed : joinedFacts Tryd.prog 7 Tryd.f7 Rows.summaryOnceSpec Rows.summaryOnceRow = true := by
  unfold joinedFacts
  rw [cl_inPlace, cl_unfollowed, cl_recurses, cl_varsNamed]
  kernel_rfl
theorem over : Rows.SummaryOnceSaid :=
  OpenClaim.holds_of_wide 7 Tryd.f7 rfl rfl rfl rfl rfl rfl rfl ⟨rfl, rfl, rfl, rfl, rfl⟩ rfl rfl rfl rfl rfl (by kernel_rfl) Tryd.func7 closed
    (of_decide_eq_true (by kernel_rfl)) (by unfold Func.isWrapper; first | (rw [if_pos (by decide +kernel)]; kernel_rfl) | (rw [if_neg (by decide +kernel)]; exact ⟨rfl, rfl⟩))
    (fun os started H enc _ => lifted os started H enc)
end SummaryOnceWalk
/-- The statement. -/
theorem summaryOnce_holds : Rows.SummaryOnceCardSaid :=
  Claim7.holds_tied_plain_at .later [] [.data] true (true, "149479f12dfa0d493e3348b505bb637ce75bf490313d44cd1ef59b1acd0eb049") false
    SummaryOnceWalk.over (fun _ h => by cases h) (by kernel_rfl) (fun _ h => by cases h) summaryOnce_row_tie rfl ⟨rfl, rfl⟩ (by kernel_rfl) rfl
    (fun f fn hf hfn => by
      obtain rfl : f = 7 := Option.some.inj ((show Tryd.prog.funcNamed "marlstone/marlstonelaw14.SummaryOnce" = some 7 by kernel_rfl).symm.trans hf) |>.symm
      obtain rfl : fn = Tryd.f7 := (Option.some.inj (Tryd.func7.symm.trans hfn)).symm
      exact ⟨by kernel_rfl, fun j t ht => by
        rw [Tryd.params7] at ht
        have hm : t ∈ ([25] : List TypeId) := List.mem_of_getElem? (by simpa using ht)
        simp only [List.mem_cons, List.not_mem_nil, or_false] at hm
        rcases hm with rfl <;> exact (show Tryd.prog.wantsStandIn _ = false by kernel_rfl)⟩)
    (by kernel_rfl)
#print axioms summaryOnce_holds
end Go.Proofs.YtiimmknnlciljaaDoor
