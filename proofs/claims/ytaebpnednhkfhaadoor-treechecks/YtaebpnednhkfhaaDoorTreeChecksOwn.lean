/-
  An opening of a leaf is taken, or not, as the document says, of any number of bits and of all of them, and the path stays: proved for any root, number of leaves, place, leaf (of which at most two hundred bytes are looked at) and path (of which at most seventy digests are looked at), without conditions.
-/
import Derived.Test.YtaebpnednhkfhaaDoorRows
import Derived.Test.YtaebpnednhkfhaaDoorCards
import Derived.Test.YtaebpnednhkfhaaDoorTie
import Derived.Test.YtaebpnednhkfhaaDoorTreeChecksLift
import Derived.ShutString
import Derived.SevenTiedAt
namespace Go.Proofs.YtaebpnednhkfhaaDoor
namespace TreeChecksWalk
open Go.ChangeShapes Go.WideShapes Go.ChangeAt Go.RowKit
set_option maxRecDepth 100000 in
theorem cl_inPlace : (Rows.treeChecksRow.inPlace == Tryd.prog.inPlace 5) = true := by kernel_rfl
set_option maxRecDepth 100000 in
theorem cl_unfollowed : (Rows.treeChecksRow.unfollowed == Tryd.prog.unfollowed 5) = true := by kernel_rfl
set_option maxRecDepth 100000 in
theorem cl_recurses : (Rows.treeChecksRow.recurses == Tryd.prog.recurses 5) = true := by kernel_rfl
set_option maxRecDepth 100000 in
theorem cl_varsNamed : (Rows.treeChecksRow.named == Tryd.prog.varsNamed 5) = true := by kernel_rfl
set_option maxRecDepth 100000 in
theorem closed : joinedFacts Tryd.prog 5 Tryd.f5 Rows.treeChecksSpec Rows.treeChecksRow = true := by
  unfold joinedFacts
  rw [cl_inPlace, cl_unfollowed, cl_recurses, cl_varsNamed]
  kernel_rfl
theorem over : Rows.TreeChecksSaid :=
  OpenClaim.holds_of_wide 5 Tryd.f5 rfl rfl rfl rfl rfl rfl rfl ⟨rfl, rfl, rfl, rfl, rfl⟩ rfl rfl rfl rfl rfl (by kernel_rfl) Tryd.func5 closed
    (of_decide_eq_true (by kernel_rfl)) (by unfold Func.isWrapper; first | (rw [if_pos (by decide +kernel)]; kernel_rfl) | (rw [if_neg (by decide +kernel)]; exact ⟨rfl, rfl⟩))
    (fun os started H enc _ => lifted os started H enc)
end TreeChecksWalk
/-- The statement. -/
theorem treeChecks_holds : Rows.TreeChecksCardSaid :=
  Claim7.holds_tied_plain_at .later [] [.data] true (true, "ef73b22df606d2f9f62766d944acd949b704f06f9f41d5c49b3f997bbad36963") true
    TreeChecksWalk.over (fun _ h => by cases h) (by kernel_rfl) (fun _ h => by cases h) treeChecks_row_tie rfl ⟨rfl, rfl⟩ (by kernel_rfl) rfl
    (fun f fn hf hfn => by
      obtain rfl : f = 5 := Option.some.inj ((show Tryd.prog.funcNamed "marlstone/marlstonelaw05.TreeChecks" = some 5 by kernel_rfl).symm.trans hf) |>.symm
      obtain rfl : fn = Tryd.f5 := (Option.some.inj (Tryd.func5.symm.trans hfn)).symm
      exact ⟨by kernel_rfl, fun j t ht => by
        rw [Tryd.params5] at ht
        have hm : t ∈ ([3, 24, 3, 3, 36, 40] : List TypeId) := List.mem_of_getElem? (by simpa using ht)
        simp only [List.mem_cons, List.not_mem_nil, or_false] at hm
        rcases hm with rfl | rfl | rfl | rfl | rfl | rfl <;> exact (show Tryd.prog.wantsStandIn _ = false by kernel_rfl)⟩)
    (by kernel_rfl)
#print axioms treeChecks_holds
end Go.Proofs.YtaebpnednhkfhaaDoor
