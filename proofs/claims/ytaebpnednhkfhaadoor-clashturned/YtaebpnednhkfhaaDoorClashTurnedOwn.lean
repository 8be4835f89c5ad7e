/-
  Two texts are a clash either way round, with fewer bits no less, a text and itself never, and with no bits just if they are unlike: proved for any number of bits and any two texts (of which at most three hundred bytes each are looked at), without conditions.
-/
import Derived.Test.YtaebpnednhkfhaaDoorRows
import Derived.Test.YtaebpnednhkfhaaDoorCards
import Derived.Test.YtaebpnednhkfhaaDoorTie
import Derived.Test.YtaebpnednhkfhaaDoorClashTurnedLift
import Derived.ShutString
import Derived.SevenTiedAt
namespace Go.Proofs.YtaebpnednhkfhaaDoor
namespace ClashTurnedWalk
open Go.ChangeShapes Go.WideShapes Go.ChangeAt Go.RowKit
set_option maxRecDepth 100000 in
theorem cl_inPlace : (Rows.clashTurnedRow.inPlace == Tryd.prog.inPlace 18) = true := by kernel_rfl
set_option maxRecDepth 100000 in
theorem cl_unfollowed : (Rows.clashTurnedRow.unfollowed == Tryd.prog.unfollowed 18) = true := by kernel_rfl
set_option maxRecDepth 100000 in
theorem cl_recurses : (Rows.clashTurnedRow.recurses == Tryd.prog.recurses 18) = true := by kernel_rfl
set_option maxRecDepth 100000 in
theorem cl_varsNamed : (Rows.clashTurnedRow.named == Tryd.prog.varsNamed 18) = true := by kernel_rfl
set_option maxRecDepth 100000 in
theorem closed : joinedFacts Tryd.prog 18 Tryd.f18 Rows.clashTurnedSpec Rows.clashTurnedRow = true := by
  unfold joinedFacts
  rw [cl_inPlace, cl_unfollowed, cl_recurses, cl_varsNamed]
  kernel_rfl
theorem over : Rows.ClashTurnedSaid :=
  OpenClaim.holds_of_wide 18 Tryd.f18 rfl rfl rfl rfl rfl rfl rfl ⟨rfl, rfl, rfl, rfl, rfl⟩ rfl rfl rfl rfl rfl (by kernel_rfl) Tryd.func18 closed
    (of_decide_eq_true (by kernel_rfl)) (by unfold Func.isWrapper; first | (rw [if_pos (by decide +kernel)]; kernel_rfl) | (rw [if_neg (by decide +kernel)]; exact ⟨rfl, rfl⟩))
    (fun os started H enc _ => lifted os started H enc)
end ClashTurnedWalk
/-- The statement. -/
theorem clashTurned_holds : Rows.ClashTurnedCardSaid :=
  Claim7.holds_tied_plain_at .later [] [.data] true (true, "ef73b22df606d2f9f62766d944acd949b704f06f9f41d5c49b3f997bbad36963") true
    ClashTurnedWalk.over (fun _ h => by cases h) (by kernel_rfl) (fun _ h => by cases h) clashTurned_row_tie rfl ⟨rfl, rfl⟩ (by kernel_rfl) rfl
    (fun f fn hf hfn => by
      obtain rfl : f = 18 := Option.some.inj ((show Tryd.prog.funcNamed "marlstone/marlstonelaw06.ClashTurned" = some 18 by kernel_rfl).symm.trans hf) |>.symm
      obtain rfl : fn = Tryd.f18 := (Option.some.inj (Tryd.func18.symm.trans hfn)).symm
      exact ⟨by kernel_rfl, fun j t ht => by
        rw [Tryd.params18] at ht
        have hm : t ∈ ([3, 36, 36] : List TypeId) := List.mem_of_getElem? (by simpa using ht)
        simp only [List.mem_cons, List.not_mem_nil, or_false] at hm
        rcases hm with rfl | rfl | rfl <;> exact (show Tryd.prog.wantsStandIn _ = false by kernel_rfl)⟩)
    (by kernel_rfl)
#print axioms clashTurned_holds
end Go.Proofs.YtaebpnednhkfhaaDoor
