/-
  What is proved of a table is checked: the point tells what the list has of the key, the span all that it has of the keys, and of others there is an error: proved for any entries (of which at most seventy, each cut to 130 and 1030 bytes, are folded, and of these at most sixty-four that are right are taken), any number of bits and any keys, without conditions.
-/
import Derived.Test.YtecacjddggljgaaDoorRows
import Derived.Test.YtecacjddggljgaaDoorCards
import Derived.Test.YtecacjddggljgaaDoorTie
import Derived.Test.YtecacjddggljgaaDoorSeekBackLift
import Derived.ShutString
import Derived.SevenTiedAt
namespace Go.Proofs.YtecacjddggljgaaDoor
namespace SeekBackWalk
open Go.ChangeShapes Go.WideShapes Go.ChangeAt Go.RowKit
set_option maxRecDepth 100000 in
theorem cl_inPlace : (Rows.seekBackRow.inPlace == Tryd.prog.inPlace 5) = true := by kernel_rfl
set_option maxRecDepth 100000 in
theorem cl_unfollowed : (Rows.seekBackRow.unfollowed == Tryd.prog.unfollowed 5) = true := by kernel_rfl
set_option maxRecDepth 100000 in
theorem cl_recurses : (Rows.seekBackRow.recurses == Tryd.prog.recurses 5) = true := by kernel_rfl
set_option maxRecDepth 100000 in
theorem cl_varsNamed : (Rows.seekBackRow.named == Tryd.prog.varsNamed 5) = true := by kernel_rfl
set_option maxRecDepth 100000 in
theorem closed : joinedFacts Tryd.prog 5 Tryd.f5 Rows.seekBackSpec Rows.seekBackRow = true := by
  unfold joinedFacts
  rw [cl_inPlace, cl_unfollowed, cl_recurses, cl_varsNamed]
  kernel_rfl
theorem over : Rows.SeekBackSaid :=
  OpenClaim.holds_of_wide 5 Tryd.f5 rfl rfl rfl rfl rfl rfl rfl ⟨rfl, rfl, rfl, rfl, rfl⟩ rfl rfl rfl rfl rfl (by kernel_rfl) Tryd.func5 closed
    (of_decide_eq_true (by kernel_rfl)) (by unfold Func.isWrapper; first | (rw [if_pos (by decide +kernel)]; kernel_rfl) | (rw [if_neg (by decide +kernel)]; exact ⟨rfl, rfl⟩))
    (fun os started H enc _ => lifted os started H enc)
end SeekBackWalk
/-- The statement. -/
theorem seekBack_holds : Rows.SeekBackCardSaid :=
  Claim7.holds_tied_plain_at .later [] [.data] true (true, "62cdb63f527a011053e881740caf8f56d6a68667533956bfe4d4ea2ab16cfb5d") true
    SeekBackWalk.over (fun _ h => by cases h) (by kernel_rfl) (fun _ h => by cases h) seekBack_row_tie rfl ⟨rfl, rfl⟩ (by kernel_rfl) rfl
    (fun f fn hf hfn => by
      obtain rfl : f = 5 := Option.some.inj ((show Tryd.prog.funcNamed "marlstone/marlstonelaw12.SeekBack" = some 5 by kernel_rfl).symm.trans hf) |>.symm
      obtain rfl : fn = Tryd.f5 := (Option.some.inj (Tryd.func5.symm.trans hfn)).symm
      exact ⟨by kernel_rfl, fun j t ht => by
        rw [Tryd.params5] at ht
        have hm : t ∈ ([22, 3, 9, 9] : List TypeId) := List.mem_of_getElem? (by simpa using ht)
        simp only [List.mem_cons, List.not_mem_nil, or_false] at hm
        rcases hm with rfl | rfl | rfl | rfl <;> exact (show Tryd.prog.wantsStandIn _ = false by kernel_rfl)⟩)
    (by kernel_rfl)
#print axioms seekBack_holds
end Go.Proofs.YtecacjddggljgaaDoor
