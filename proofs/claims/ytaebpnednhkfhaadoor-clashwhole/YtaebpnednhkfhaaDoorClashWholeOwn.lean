/-
  Whatever part and path CheckRange takes with the root of all leaves are the real ones, and then OfRange tells nothing, or OfRange tells two unlike texts with one sum; of what CheckRange does not take it tells nothing: proved for any leaves and any part (of each of which at most forty leaves of a hundred bytes are looked at) at any place, any path and number of bits, without conditions.
-/
import Derived.Test.YtaebpnednhkfhaaDoorRows
import Derived.Test.YtaebpnednhkfhaaDoorCards
import Derived.Test.YtaebpnednhkfhaaDoorTie
import Derived.Test.YtaebpnednhkfhaaDoorClashWholeLift
import Derived.ShutString
import Derived.SevenTiedAt
namespace Go.Proofs.YtaebpnednhkfhaaDoor
namespace ClashWholeWalk
open Go.ChangeShapes Go.WideShapes Go.ChangeAt Go.RowKit
set_option maxRecDepth 100000 in
theorem cl_inPlace : (Rows.clashWholeRow.inPlace == Tryd.prog.inPlace 16) = true := by kernel_rfl
set_option maxRecDepth 100000 in
theorem cl_unfollowed : (Rows.clashWholeRow.unfollowed == Tryd.prog.unfollowed 16) = true := by kernel_rfl
set_option maxRecDepth 100000 in
theorem cl_recurses : (Rows.clashWholeRow.recurses == Tryd.prog.recurses 16) = true := by kernel_rfl
set_option maxRecDepth 100000 in
theorem cl_varsNamed : (Rows.clashWholeRow.named == Tryd.prog.varsNamed 16) = true := by kernel_rfl
set_option maxRecDepth 100000 in
theorem closed : joinedFacts Tryd.prog 16 Tryd.f16 Rows.clashWholeSpec Rows.clashWholeRow = true := by
  unfold joinedFacts
  rw [cl_inPlace, cl_unfollowed, cl_recurses, cl_varsNamed]
  kernel_rfl
theorem over : Rows.ClashWholeSaid :=
  OpenClaim.holds_of_wide 16 Tryd.f16 rfl rfl rfl rfl rfl rfl rfl ⟨rfl, rfl, rfl, rfl, rfl⟩ rfl rfl rfl rfl rfl (by kernel_rfl) Tryd.func16 closed
    (of_decide_eq_true (by kernel_rfl)) (by unfold Func.isWrapper; first | (rw [if_pos (by decide +kernel)]; kernel_rfl) | (rw [if_neg (by decide +kernel)]; exact ⟨rfl, rfl⟩))
    (fun os started H enc _ => lifted os started H enc)
end ClashWholeWalk
/-- The statement. -/
theorem clashWhole_holds : Rows.ClashWholeCardSaid :=
  Claim7.holds_tied_plain_at .later [] [.data] true (true, "ef73b22df606d2f9f62766d944acd949b704f06f9f41d5c49b3f997bbad36963") true
    ClashWholeWalk.over (fun _ h => by cases h) (by kernel_rfl) (fun _ h => by cases h) clashWhole_row_tie rfl ⟨rfl, rfl⟩ (by kernel_rfl) rfl
    (fun f fn hf hfn => by
      obtain rfl : f = 16 := Option.some.inj ((show Tryd.prog.funcNamed "marlstone/marlstonelaw06.ClashWhole" = some 16 by kernel_rfl).symm.trans hf) |>.symm
      obtain rfl : fn = Tryd.f16 := (Option.some.inj (Tryd.func16.symm.trans hfn)).symm
      exact ⟨by kernel_rfl, fun j t ht => by
        rw [Tryd.params16] at ht
        have hm : t ∈ ([3, 22, 3, 22, 40] : List TypeId) := List.mem_of_getElem? (by simpa using ht)
        simp only [List.mem_cons, List.not_mem_nil, or_false] at hm
        rcases hm with rfl | rfl | rfl | rfl | rfl <;> exact (show Tryd.prog.wantsStandIn _ = false by kernel_rfl)⟩)
    (by kernel_rfl)
#print axioms clashWhole_holds
end Go.Proofs.YtaebpnednhkfhaaDoor
