/-
  All of a mem is the Fold of its writes, Get of each key is its last write, Range cuts All at both ends, and Len counts it: proved for any entries (of which at most sixty, each cut to 130 and 1030 bytes, are written, those that are right), and any two keys, without conditions.
-/
import Derived.Test.YtaamekkbgaeafaaDoorRows
import Derived.Test.YtaamekkbgaeafaaDoorCards
import Derived.Test.YtaamekkbgaeafaaDoorTie
import Derived.Test.YtaamekkbgaeafaaDoorMemFoldsLift
import Derived.ShutString
import Derived.SevenTiedAt
namespace Go.Proofs.YtaamekkbgaeafaaDoor
namespace MemFoldsWalk
open Go.ChangeShapes Go.WideShapes Go.ChangeAt Go.RowKit
set_option maxRecDepth 100000 in
theorem cl_inPlace : (Rows.memFoldsRow.inPlace == Tryd.prog.inPlace 4) = true := by kernel_rfl
set_option maxRecDepth 100000 in
theorem cl_unfollowed : (Rows.memFoldsRow.unfollowed == Tryd.prog.unfollowed 4) = true := by kernel_rfl
set_option maxRecDepth 100000 in
theorem cl_recurses : (Rows.memFoldsRow.recurses == Tryd.prog.recurses 4) = true := by kernel_rfl
set_option maxRecDepth 100000 in
theorem cl_varsNamed : (Rows.memFoldsRow.named == Tryd.prog.varsNamed 4) = true := by kernel_rfl
set_option maxRecDepth 100000 in
theorem closed : joinedFacts Tryd.prog 4 Tryd.f4 Rows.memFoldsSpec Rows.memFoldsRow = true := by
  unfold joinedFacts
  rw [cl_inPlace, cl_unfollowed, cl_recurses, cl_varsNamed]
  kernel_rfl
theorem over : Rows.MemFoldsSaid :=
  OpenClaim.holds_of_wide 4 Tryd.f4 rfl rfl rfl rfl rfl rfl rfl ⟨rfl, rfl, rfl, rfl, rfl⟩ rfl rfl rfl rfl rfl (by kernel_rfl) Tryd.func4 closed
    (of_decide_eq_true (by kernel_rfl)) (by unfold Func.isWrapper; first | (rw [if_pos (by decide +kernel)]; kernel_rfl) | (rw [if_neg (by decide +kernel)]; exact ⟨rfl, rfl⟩))
    (fun os started H enc _ => lifted os started H enc)
end MemFoldsWalk
/-- The statement. -/
theorem memFolds_holds : Rows.MemFoldsCardSaid :=
  Claim7.holds_tied_plain_at .later [] [.data] true (true, "614cae9945f2eef18355dc967635c3aed4c002f9c6ab7f6fcc1a2e3a5fee8469") false
    MemFoldsWalk.over (fun _ h => by cases h) (by kernel_rfl) (fun _ h => by cases h) memFolds_row_tie rfl ⟨rfl, rfl⟩ (by kernel_rfl) rfl
    (fun f fn hf hfn => by
      obtain rfl : f = 4 := Option.some.inj ((show Tryd.prog.funcNamed "marlstone/marlstonelaw10.MemFolds" = some 4 by kernel_rfl).symm.trans hf) |>.symm
      obtain rfl : fn = Tryd.f4 := (Option.some.inj (Tryd.func4.symm.trans hfn)).symm
      exact ⟨by kernel_rfl, fun j t ht => by
        rw [Tryd.params4] at ht
        have hm : t ∈ ([35, 9, 9] : List TypeId) := List.mem_of_getElem? (by simpa using ht)
        simp only [List.mem_cons, List.not_mem_nil, or_false] at hm
        rcases hm with rfl | rfl | rfl <;> exact (show Tryd.prog.wantsStandIn _ = false by kernel_rfl)⟩)
    (by kernel_rfl)
#print axioms memFolds_holds
end Go.Proofs.YtaamekkbgaeafaaDoor
