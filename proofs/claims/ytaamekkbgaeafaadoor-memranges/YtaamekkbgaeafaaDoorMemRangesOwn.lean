/-
  What a mem has below the first of two keys, from there to the second one, and from that on is all that it has, in order: proved for any entries (of which at most forty are written, each cut to 130 and 1030 bytes), and any two keys, without conditions.
-/
import Derived.Test.YtaamekkbgaeafaaDoorRows
import Derived.Test.YtaamekkbgaeafaaDoorCards
import Derived.Test.YtaamekkbgaeafaaDoorTie
import Derived.Test.YtaamekkbgaeafaaDoorMemRangesLift
import Derived.ShutString
import Derived.SevenTiedAt
namespace Go.Proofs.YtaamekkbgaeafaaDoor
namespace MemRangesWalk
open Go.ChangeShapes Go.WideShapes Go.ChangeAt Go.RowKit
set_option maxRecDepth 100000 in
theorem cl_inPlace : (Rows.memRangesRow.inPlace == Tryd.prog.inPlace 7) = true := by kernel_rfl
set_option maxRecDepth 100000 in
theorem cl_unfollowed : (Rows.memRangesRow.unfollowed == Tryd.prog.unfollowed 7) = true := by kernel_rfl
set_option maxRecDepth 100000 in
theorem cl_recurses : (Rows.memRangesRow.recurses == Tryd.prog.recurses 7) = true := by kernel_rfl
set_option maxRecDepth 100000 in
theorem cl_varsNamed : (Rows.memRangesRow.named == Tryd.prog.varsNamed 7) = true := by kernel_rfl
set_option maxRecDepth 100000 in
theorem closed : joinedFacts Tryd.prog 7 Tryd.f7 Rows.memRangesSpec Rows.memRangesRow = true := by
  unfold joinedFacts
  rw [cl_inPlace, cl_unfollowed, cl_recurses, cl_varsNamed]
  kernel_rfl
theorem over : Rows.MemRangesSaid :=
  OpenClaim.holds_of_wide 7 Tryd.f7 rfl rfl rfl rfl rfl rfl rfl ⟨rfl, rfl, rfl, rfl, rfl⟩ rfl rfl rfl rfl rfl (by kernel_rfl) Tryd.func7 closed
    (of_decide_eq_true (by kernel_rfl)) (by unfold Func.isWrapper; first | (rw [if_pos (by decide +kernel)]; kernel_rfl) | (rw [if_neg (by decide +kernel)]; exact ⟨rfl, rfl⟩))
    (fun os started H enc _ => lifted os started H enc)
end MemRangesWalk
/-- The statement. -/
theorem memRanges_holds : Rows.MemRangesCardSaid :=
  Claim7.holds_tied_plain_at .later [] [.data] true (true, "614cae9945f2eef18355dc967635c3aed4c002f9c6ab7f6fcc1a2e3a5fee8469") false
    MemRangesWalk.over (fun _ h => by cases h) (by kernel_rfl) (fun _ h => by cases h) memRanges_row_tie rfl ⟨rfl, rfl⟩ (by kernel_rfl) rfl
    (fun f fn hf hfn => by
      obtain rfl : f = 7 := Option.some.inj ((show Tryd.prog.funcNamed "marlstone/marlstonelaw10.MemRanges" = some 7 by kernel_rfl).symm.trans hf) |>.symm
      obtain rfl : fn = Tryd.f7 := (Option.some.inj (Tryd.func7.symm.trans hfn)).symm
      exact ⟨by kernel_rfl, fun j t ht => by
        rw [Tryd.params7] at ht
        have hm : t ∈ ([35, 9, 9] : List TypeId) := List.mem_of_getElem? (by simpa using ht)
        simp only [List.mem_cons, List.not_mem_nil, or_false] at hm
        rcases hm with rfl | rfl | rfl <;> exact (show Tryd.prog.wantsStandIn _ = false by kernel_rfl)⟩)
    (by kernel_rfl)
#print axioms memRanges_holds
end Go.Proofs.YtaamekkbgaeafaaDoor
