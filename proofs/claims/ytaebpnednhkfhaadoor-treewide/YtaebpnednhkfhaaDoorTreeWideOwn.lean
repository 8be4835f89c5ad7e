/-
  For any number of leaves, however great, any place, leaf and as many digests as it takes, Check takes just the root that is found from the bottom up; at a place that there is not it takes nothing: proved for any numbers, any leaf (of which at most two hundred bytes are looked at) and any digests, without conditions.
-/
import Derived.Test.YtaebpnednhkfhaaDoorRows
import Derived.Test.YtaebpnednhkfhaaDoorCards
import Derived.Test.YtaebpnednhkfhaaDoorTie
import Derived.Test.YtaebpnednhkfhaaDoorTreeWideLift
import Derived.ShutString
import Derived.SevenTiedAt
namespace Go.Proofs.YtaebpnednhkfhaaDoor
namespace TreeWideWalk
open Go.ChangeShapes Go.WideShapes Go.ChangeAt Go.RowKit
set_option maxRecDepth 100000 in
theorem cl_inPlace : (Rows.treeWideRow.inPlace == Tryd.prog.inPlace 10) = true := by kernel_rfl
set_option maxRecDepth 100000 in
theorem cl_unfollowed : (Rows.treeWideRow.unfollowed == Tryd.prog.unfollowed 10) = true := by kernel_rfl
set_option maxRecDepth 100000 in
theorem cl_recurses : (Rows.treeWideRow.recurses == Tryd.prog.recurses 10) = true := by kernel_rfl
set_option maxRecDepth 100000 in
theorem cl_varsNamed : (Rows.treeWideRow.named == Tryd.prog.varsNamed 10) = true := by kernel_rfl
set_option maxRecDepth 100000 in
theorem closed : joinedFacts Tryd.prog 10 Tryd.f10 Rows.treeWideSpec Rows.treeWideRow = true := by
  unfold joinedFacts
  rw [cl_inPlace, cl_unfollowed, cl_recurses, cl_varsNamed]
  kernel_rfl
theorem over : Rows.TreeWideSaid :=
  OpenClaim.holds_of_wide 10 Tryd.f10 rfl rfl rfl rfl rfl rfl rfl ⟨rfl, rfl, rfl, rfl, rfl⟩ rfl rfl rfl rfl rfl (by kernel_rfl) Tryd.func10 closed
    (of_decide_eq_true (by kernel_rfl)) (by unfold Func.isWrapper; first | (rw [if_pos (by decide +kernel)]; kernel_rfl) | (rw [if_neg (by decide +kernel)]; exact ⟨rfl, rfl⟩))
    (fun os started H enc _ => lifted os started H enc)
end TreeWideWalk
/-- The statement. -/
theorem treeWide_holds : Rows.TreeWideCardSaid :=
  Claim7.holds_tied_plain_at .later [] [.data] true (true, "ef73b22df606d2f9f62766d944acd949b704f06f9f41d5c49b3f997bbad36963") true
    TreeWideWalk.over (fun _ h => by cases h) (by kernel_rfl) (fun _ h => by cases h) treeWide_row_tie rfl ⟨rfl, rfl⟩ (by kernel_rfl) rfl
    (fun f fn hf hfn => by
      obtain rfl : f = 10 := Option.some.inj ((show Tryd.prog.funcNamed "marlstone/marlstonelaw05.TreeWide" = some 10 by kernel_rfl).symm.trans hf) |>.symm
      obtain rfl : fn = Tryd.f10 := (Option.some.inj (Tryd.func10.symm.trans hfn)).symm
      exact ⟨by kernel_rfl, fun j t ht => by
        rw [Tryd.params10] at ht
        have hm : t ∈ ([3, 3, 36, 40] : List TypeId) := List.mem_of_getElem? (by simpa using ht)
        simp only [List.mem_cons, List.not_mem_nil, or_false] at hm
        rcases hm with rfl | rfl | rfl | rfl <;> exact (show Tryd.prog.wantsStandIn _ = false by kernel_rfl)⟩)
    (by kernel_rfl)
#print axioms treeWide_holds
end Go.Proofs.YtaebpnednhkfhaaDoor
