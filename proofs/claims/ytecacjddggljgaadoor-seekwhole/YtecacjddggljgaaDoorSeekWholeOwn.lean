/-
  The span of all keys of a table is taken and tells all its entries, from the first leaf on, with no digest beside: proved for any entries (of which at most seventy, each cut to 130 and 1030 bytes, are folded, and of these at most sixty-four that are right are taken), and any number of bits, without conditions.
-/
import Derived.Test.YtecacjddggljgaaDoorRows
import Derived.Test.YtecacjddggljgaaDoorCards
import Derived.Test.YtecacjddggljgaaDoorTie
import Derived.Test.YtecacjddggljgaaDoorSeekWholeLift
import Derived.ShutString
import Derived.SevenTiedAt
namespace Go.Proofs.YtecacjddggljgaaDoor
namespace SeekWholeWalk
open Go.ChangeShapes Go.WideShapes Go.ChangeAt Go.RowKit
set_option maxRecDepth 100000 in
theorem cl_inPlace : (Rows.seekWholeRow.inPlace == Tryd.prog.inPlace 9) = true := by kernel_rfl
set_option maxRecDepth 100000 in
theorem cl_unfollowed : (Rows.seekWholeRow.unfollowed == Tryd.prog.unfollowed 9) = true := by kernel_rfl
set_option maxRecDepth 100000 in
theorem cl_recurses : (Rows.seekWholeRow.recurses == Tryd.prog.recurses 9) = true := by kernel_rfl
set_option maxRecDepth 100000 in
theorem cl_varsNamed : (Rows.seekWholeRow.named == Tryd.prog.varsNamed 9) = true := by kernel_rfl
set_option maxRecDepth 100000 in
theorem closed : joinedFacts Tryd.prog 9 Tryd.f9 Rows.seekWholeSpec Rows.seekWholeRow = true := by
  unfold joinedFacts
  rw [cl_inPlace, cl_unfollowed, cl_recurses, cl_varsNamed]
  kernel_rfl
theorem over : Rows.SeekWholeSaid :=
  OpenClaim.holds_of_wide 9 Tryd.f9 rfl rfl rfl rfl rfl rfl rfl ⟨rfl, rfl, rfl, rfl, rfl⟩ rfl rfl rfl rfl rfl (by kernel_rfl) Tryd.func9 closed
    (of_decide_eq_true (by kernel_rfl)) (by unfold Func.isWrapper; first | (rw [if_pos (by decide +kernel)]; kernel_rfl) | (rw [if_neg (by decide +kernel)]; exact ⟨rfl, rfl⟩))
    (fun os started H enc _ => lifted os started H enc)
end SeekWholeWalk
/-- The statement. -/
theorem seekWhole_holds : Rows.SeekWholeCardSaid :=
  Claim7.holds_tied_plain_at .later [] [.data] true (true, "62cdb63f527a011053e881740caf8f56d6a68667533956bfe4d4ea2ab16cfb5d") true
    SeekWholeWalk.over (fun _ h => by cases h) (by kernel_rfl) (fun _ h => by cases h) seekWhole_row_tie rfl ⟨rfl, rfl⟩ (by kernel_rfl) rfl
    (fun f fn hf hfn => by
      obtain rfl : f = 9 := Option.some.inj ((show Tryd.prog.funcNamed "marlstone/marlstonelaw12.SeekWhole" = some 9 by kernel_rfl).symm.trans hf) |>.symm
      obtain rfl : fn = Tryd.f9 := (Option.some.inj (Tryd.func9.symm.trans hfn)).symm
      exact ⟨by kernel_rfl, fun j t ht => by
        rw [Tryd.params9] at ht
        have hm : t ∈ ([22, 3] : List TypeId) := List.mem_of_getElem? (by simpa using ht)
        simp only [List.mem_cons, List.not_mem_nil, or_false] at hm
        rcases hm with rfl | rfl <;> exact (show Tryd.prog.wantsStandIn _ = false by kernel_rfl)⟩)
    (by kernel_rfl)
#print axioms seekWhole_holds
end Go.Proofs.YtecacjddggljgaaDoor
