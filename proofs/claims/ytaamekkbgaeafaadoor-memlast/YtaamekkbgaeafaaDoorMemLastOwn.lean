/-
  Of two numbers from 1 to 2^40 the second one is taken just if it is above the first one, also behind Clear, else it is ErrArg, and Last is the greater one: proved for any two numbers, with and without Clear, without conditions.
-/
import Derived.Test.YtaamekkbgaeafaaDoorRows
import Derived.Test.YtaamekkbgaeafaaDoorCards
import Derived.Test.YtaamekkbgaeafaaDoorTie
import Derived.Test.YtaamekkbgaeafaaDoorMemLastLift
import Derived.ShutString
import Derived.SevenTiedAt
namespace Go.Proofs.YtaamekkbgaeafaaDoor
namespace MemLastWalk
open Go.ChangeShapes Go.WideShapes Go.ChangeAt Go.RowKit
set_option maxRecDepth 100000 in
theorem cl_inPlace : (Rows.memLastRow.inPlace == Tryd.prog.inPlace 8) = true := by kernel_rfl
set_option maxRecDepth 100000 in
theorem cl_unfollowed : (Rows.memLastRow.unfollowed == Tryd.prog.unfollowed 8) = true := by kernel_rfl
set_option maxRecDepth 100000 in
theorem cl_recurses : (Rows.memLastRow.recurses == Tryd.prog.recurses 8) = true := by kernel_rfl
set_option maxRecDepth 100000 in
theorem cl_varsNamed : (Rows.memLastRow.named == Tryd.prog.varsNamed 8) = true := by kernel_rfl
set_option maxRecDepth 100000 in
theorem closed : joinedFacts Tryd.prog 8 Tryd.f8 Rows.memLastSpec Rows.memLastRow = true := by
  unfold joinedFacts
  rw [cl_inPlace, cl_unfollowed, cl_recurses, cl_varsNamed]
  kernel_rfl
theorem over : Rows.MemLastSaid :=
  OpenClaim.holds_of_wide 8 Tryd.f8 rfl rfl rfl rfl rfl rfl rfl ⟨rfl, rfl, rfl, rfl, rfl⟩ rfl rfl rfl rfl rfl (by kernel_rfl) Tryd.func8 closed
    (of_decide_eq_true (by kernel_rfl)) (by unfold Func.isWrapper; first | (rw [if_pos (by decide +kernel)]; kernel_rfl) | (rw [if_neg (by decide +kernel)]; exact ⟨rfl, rfl⟩))
    (fun os started H enc _ => lifted os started H enc)
end MemLastWalk
/-- The statement. -/
theorem memLast_holds : Rows.MemLastCardSaid :=
  Claim7.holds_tied_plain_at .later [] [.data] true (true, "614cae9945f2eef18355dc967635c3aed4c002f9c6ab7f6fcc1a2e3a5fee8469") false
    MemLastWalk.over (fun _ h => by cases h) (by kernel_rfl) (fun _ h => by cases h) memLast_row_tie rfl ⟨rfl, rfl⟩ (by kernel_rfl) rfl
    (fun f fn hf hfn => by
      obtain rfl : f = 8 := Option.some.inj ((show Tryd.prog.funcNamed "marlstone/marlstonelaw10.MemLast" = some 8 by kernel_rfl).symm.trans hf) |>.symm
      obtain rfl : fn = Tryd.f8 := (Option.some.inj (Tryd.func8.symm.trans hfn)).symm
      exact ⟨by kernel_rfl, fun j t ht => by
        rw [Tryd.params8] at ht
        have hm : t ∈ ([3, 3, 4] : List TypeId) := List.mem_of_getElem? (by simpa using ht)
        simp only [List.mem_cons, List.not_mem_nil, or_false] at hm
        rcases hm with rfl | rfl | rfl <;> exact (show Tryd.prog.wantsStandIn _ = false by kernel_rfl)⟩)
    (by kernel_rfl)
#print axioms memLast_holds
end Go.Proofs.YtaamekkbgaeafaaDoor
