/-
  A mem takes the first sixty-four keys and answers ErrLarge to each other one, takes writes of the keys that it has again, has as many keys as were taken, and behind Clear there is room again: proved for any number of keys up to a hundred, without conditions.
-/
import Derived.Test.YtaamekkbgaeafaaDoorRows
import Derived.Test.YtaamekkbgaeafaaDoorCards
import Derived.Test.YtaamekkbgaeafaaDoorTie
import Derived.Test.YtaamekkbgaeafaaDoorMemFullLift
import Derived.ShutString
import Derived.SevenTiedAt
namespace Go.Proofs.YtaamekkbgaeafaaDoor
namespace MemFullWalk
open Go.ChangeShapes Go.WideShapes Go.ChangeAt Go.RowKit
set_option maxRecDepth 100000 in
theorem cl_inPlace : (Rows.memFullRow.inPlace == Tryd.prog.inPlace 6) = true := by kernel_rfl
set_option maxRecDepth 100000 in
theorem cl_unfollowed : (Rows.memFullRow.unfollowed == Tryd.prog.unfollowed 6) = true := by kernel_rfl
set_option maxRecDepth 100000 in
theorem cl_recurses : (Rows.memFullRow.recurses == Tryd.prog.recurses 6) = true := by kernel_rfl
set_option maxRecDepth 100000 in
theorem cl_varsNamed : (Rows.memFullRow.named == Tryd.prog.varsNamed 6) = true := by kernel_rfl
set_option maxRecDepth 100000 in
theorem closed : joinedFacts Tryd.prog 6 Tryd.f6 Rows.memFullSpec Rows.memFullRow = true := by
  unfold joinedFacts
  rw [cl_inPlace, cl_unfollowed, cl_recurses, cl_varsNamed]
  kernel_rfl
theorem over : Rows.MemFullSaid :=
  OpenClaim.holds_of_wide 6 Tryd.f6 rfl rfl rfl rfl rfl rfl rfl ⟨rfl, rfl, rfl, rfl, rfl⟩ rfl rfl rfl rfl rfl (by kernel_rfl) Tryd.func6 closed
    (of_decide_eq_true (by kernel_rfl)) (by unfold Func.isWrapper; first | (rw [if_pos (by decide +kernel)]; kernel_rfl) | (rw [if_neg (by decide +kernel)]; exact ⟨rfl, rfl⟩))
    (fun os started H enc _ => lifted os started H enc)
end MemFullWalk
/-- The statement. -/
theorem memFull_holds : Rows.MemFullCardSaid :=
  Claim7.holds_tied_plain_at .later [] [.data] true (true, "614cae9945f2eef18355dc967635c3aed4c002f9c6ab7f6fcc1a2e3a5fee8469") false
    MemFullWalk.over (fun _ h => by cases h) (by kernel_rfl) (fun _ h => by cases h) memFull_row_tie rfl ⟨rfl, rfl⟩ (by kernel_rfl) rfl
    (fun f fn hf hfn => by
      obtain rfl : f = 6 := Option.some.inj ((show Tryd.prog.funcNamed "marlstone/marlstonelaw10.MemFull" = some 6 by kernel_rfl).symm.trans hf) |>.symm
      obtain rfl : fn = Tryd.f6 := (Option.some.inj (Tryd.func6.symm.trans hfn)).symm
      exact ⟨by kernel_rfl, fun j t ht => by
        rw [Tryd.params6] at ht
        have hm : t ∈ ([3] : List TypeId) := List.mem_of_getElem? (by simpa using ht)
        simp only [List.mem_cons, List.not_mem_nil, or_false] at hm
        rcases hm with rfl <;> exact (show Tryd.prog.wantsStandIn _ = false by kernel_rfl)⟩)
    (by kernel_rfl)
#print axioms memFull_holds
end Go.Proofs.YtaamekkbgaeafaaDoor
