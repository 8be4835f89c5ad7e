/-
  Two mems into which the same entries are put have the same chains at each step, though one was written and cleared ahead and the other one is asked between; a write that is refused changes nothing: proved for any entries (of which at most forty, each cut to 130 and 1030 bytes, are put) and any entry that is refused, without conditions.
-/
import Derived.Test.YtaamekkbgaeafaaDoorRows
import Derived.Test.YtaamekkbgaeafaaDoorCards
import Derived.Test.YtaamekkbgaeafaaDoorTie
import Derived.Test.YtaamekkbgaeafaaDoorMemChainsLift
import Derived.ShutString
import Derived.SevenTiedAt
namespace Go.Proofs.YtaamekkbgaeafaaDoor
namespace MemChainsWalk
open Go.ChangeShapes Go.WideShapes Go.ChangeAt Go.RowKit
set_option maxRecDepth 100000 in
theorem cl_inPlace : (Rows.memChainsRow.inPlace == Tryd.prog.inPlace 5) = true := by kernel_rfl
set_option maxRecDepth 100000 in
theorem cl_unfollowed : (Rows.memChainsRow.unfollowed == Tryd.prog.unfollowed 5) = true := by kernel_rfl
set_option maxRecDepth 100000 in
theorem cl_recurses : (Rows.memChainsRow.recurses == Tryd.prog.recurses 5) = true := by kernel_rfl
set_option maxRecDepth 100000 in
theorem cl_varsNamed : (Rows.memChainsRow.named == Tryd.prog.varsNamed 5) = true := by kernel_rfl
set_option maxRecDepth 100000 in
theorem closed : joinedFacts Tryd.prog 5 Tryd.f5 Rows.memChainsSpec Rows.memChainsRow = true := by
  unfold joinedFacts
  rw [cl_inPlace, cl_unfollowed, cl_recurses, cl_varsNamed]
  kernel_rfl
theorem over : Rows.MemChainsSaid :=
  OpenClaim.holds_of_wide 5 Tryd.f5 rfl rfl rfl rfl rfl rfl rfl ⟨rfl, rfl, rfl, rfl, rfl⟩ rfl rfl rfl rfl rfl (by kernel_rfl) Tryd.func5 closed
    (of_decide_eq_true (by kernel_rfl)) (by unfold Func.isWrapper; first | (rw [if_pos (by decide +kernel)]; kernel_rfl) | (rw [if_neg (by decide +kernel)]; exact ⟨rfl, rfl⟩))
    (fun os started H enc _ => lifted os started H enc)
end MemChainsWalk
/-- The statement. -/
theorem memChains_holds : Rows.MemChainsCardSaid :=
  Claim7.holds_tied_plain_at .later [] [.data] true (true, "614cae9945f2eef18355dc967635c3aed4c002f9c6ab7f6fcc1a2e3a5fee8469") false
    MemChainsWalk.over (fun _ h => by cases h) (by kernel_rfl) (fun _ h => by cases h) memChains_row_tie rfl ⟨rfl, rfl⟩ (by kernel_rfl) rfl
    (fun f fn hf hfn => by
      obtain rfl : f = 5 := Option.some.inj ((show Tryd.prog.funcNamed "marlstone/marlstonelaw10.MemChains" = some 5 by kernel_rfl).symm.trans hf) |>.symm
      obtain rfl : fn = Tryd.f5 := (Option.some.inj (Tryd.func5.symm.trans hfn)).symm
      exact ⟨by kernel_rfl, fun j t ht => by
        rw [Tryd.params5] at ht
        have hm : t ∈ ([35, 29] : List TypeId) := List.mem_of_getElem? (by simpa using ht)
        simp only [List.mem_cons, List.not_mem_nil, or_false] at hm
        rcases hm with rfl | rfl <;> exact (show Tryd.prog.wantsStandIn _ = false by kernel_rfl)⟩)
    (by kernel_rfl)
#print axioms memChains_holds
end Go.Proofs.YtaamekkbgaeafaaDoor
