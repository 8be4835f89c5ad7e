/-
  Who says of a table what is not so, by a point that is taken, has two unlike texts with one sum, told by the clash of one of the point's openings: proved for any entries (of which at most seventy, each cut to 130 and 1030 bytes, are folded, and of these at most sixty-four that are right are taken), any number of bits, any key and any point (its leaves cut to 1300 bytes, its paths to twenty digests), without conditions.
-/
import Derived.Test.YtecacjddggljgaaDoorRows
import Derived.Test.YtecacjddggljgaaDoorCards
import Derived.Test.YtecacjddggljgaaDoorTie
import Derived.Test.YtecacjddggljgaaDoorSeekSoundLift
import Derived.ShutString
import Derived.SevenTiedAt
namespace Go.Proofs.YtecacjddggljgaaDoor
namespace SeekSoundWalk
open Go.ChangeShapes Go.WideShapes Go.ChangeAt Go.RowKit
set_option maxRecDepth 100000 in
theorem cl_inPlace : (Rows.seekSoundRow.inPlace == Tryd.prog.inPlace 6) = true := by kernel_rfl
set_option maxRecDepth 100000 in
theorem cl_unfollowed : (Rows.seekSoundRow.unfollowed == Tryd.prog.unfollowed 6) = true := by kernel_rfl
set_option maxRecDepth 100000 in
theorem cl_recurses : (Rows.seekSoundRow.recurses == Tryd.prog.recurses 6) = true := by kernel_rfl
set_option maxRecDepth 100000 in
theorem cl_varsNamed : (Rows.seekSoundRow.named == Tryd.prog.varsNamed 6) = true := by kernel_rfl
set_option maxRecDepth 100000 in
theorem closed : joinedFacts Tryd.prog 6 Tryd.f6 Rows.seekSoundSpec Rows.seekSoundRow = true := by
  unfold joinedFacts
  rw [cl_inPlace, cl_unfollowed, cl_recurses, cl_varsNamed]
  kernel_rfl
theorem over : Rows.SeekSoundSaid :=
  OpenClaim.holds_of_wide 6 Tryd.f6 rfl rfl rfl rfl rfl rfl rfl ⟨rfl, rfl, rfl, rfl, rfl⟩ rfl rfl rfl rfl rfl (by kernel_rfl) Tryd.func6 closed
    (of_decide_eq_true (by kernel_rfl)) (by unfold Func.isWrapper; first | (rw [if_pos (by decide +kernel)]; kernel_rfl) | (rw [if_neg (by decide +kernel)]; exact ⟨rfl, rfl⟩))
    (fun os started H enc _ => lifted os started H enc)
end SeekSoundWalk
/-- The statement. -/
theorem seekSound_holds : Rows.SeekSoundCardSaid :=
  Claim7.holds_tied_plain_at .later [] [.data] true (true, "62cdb63f527a011053e881740caf8f56d6a68667533956bfe4d4ea2ab16cfb5d") true
    SeekSoundWalk.over (fun _ h => by cases h) (by kernel_rfl) (fun _ h => by cases h) seekSound_row_tie rfl ⟨rfl, rfl⟩ (by kernel_rfl) rfl
    (fun f fn hf hfn => by
      obtain rfl : f = 6 := Option.some.inj ((show Tryd.prog.funcNamed "marlstone/marlstonelaw12.SeekSound" = some 6 by kernel_rfl).symm.trans hf) |>.symm
      obtain rfl : fn = Tryd.f6 := (Option.some.inj (Tryd.func6.symm.trans hfn)).symm
      exact ⟨by kernel_rfl, fun j t ht => by
        rw [Tryd.params6] at ht
        have hm : t ∈ ([22, 3, 9, 32] : List TypeId) := List.mem_of_getElem? (by simpa using ht)
        simp only [List.mem_cons, List.not_mem_nil, or_false] at hm
        rcases hm with rfl | rfl | rfl | rfl <;> exact (show Tryd.prog.wantsStandIn _ = false by kernel_rfl)⟩)
    (by kernel_rfl)
#print axioms seekSound_holds
end Go.Proofs.YtecacjddggljgaaDoor
