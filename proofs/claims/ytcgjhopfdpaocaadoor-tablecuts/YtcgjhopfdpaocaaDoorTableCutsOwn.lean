/-
  A beginning of a list's file, and the file with any bytes behind it, is no file, or one of another list: proved for any entries (of which at most seventy, each cut to 130 and 1030 bytes, are folded, and of these at most sixty-four that are right are taken), any number, and any bytes (of which two hundred are taken), without conditions.
-/
import Derived.Test.YtcgjhopfdpaocaaDoorRows
import Derived.Test.YtcgjhopfdpaocaaDoorCards
import Derived.Test.YtcgjhopfdpaocaaDoorTie
import Derived.Test.YtcgjhopfdpaocaaDoorTableCutsLift
import Derived.ShutString
import Derived.SevenTiedAt
namespace Go.Proofs.YtcgjhopfdpaocaaDoor
namespace TableCutsWalk
open Go.ChangeShapes Go.WideShapes Go.ChangeAt Go.RowKit
set_option maxRecDepth 100000 in
theorem cl_inPlace : (Rows.tableCutsRow.inPlace == Tryd.prog.inPlace 9) = true := by kernel_rfl
set_option maxRecDepth 100000 in
theorem cl_unfollowed : (Rows.tableCutsRow.unfollowed == Tryd.prog.unfollowed 9) = true := by kernel_rfl
set_option maxRecDepth 100000 in
theorem cl_recurses : (Rows.tableCutsRow.recurses == Tryd.prog.recurses 9) = true := by kernel_rfl
set_option maxRecDepth 100000 in
theorem cl_varsNamed : (Rows.tableCutsRow.named == Tryd.prog.varsNamed 9) = true := by kernel_rfl
set_option maxRecDepth 100000 in
theorem closed : joinedFacts Tryd.prog 9 Tryd.f9 Rows.tableCutsSpec Rows.tableCutsRow = true := by
  unfold joinedFacts
  rw [cl_inPlace, cl_unfollowed, cl_recurses, cl_varsNamed]
  kernel_rfl
theorem over : Rows.TableCutsSaid :=
  OpenClaim.holds_of_wide 9 Tryd.f9 rfl rfl rfl rfl rfl rfl rfl ⟨rfl, rfl, rfl, rfl, rfl⟩ rfl rfl rfl rfl rfl (by kernel_rfl) Tryd.func9 closed
    (of_decide_eq_true (by kernel_rfl)) (by unfold Func.isWrapper; first | (rw [if_pos (by decide +kernel)]; kernel_rfl) | (rw [if_neg (by decide +kernel)]; exact ⟨rfl, rfl⟩))
    (fun os started H enc _ => lifted os started H enc)
end TableCutsWalk
/-- The statement. -/
theorem tableCuts_holds : Rows.TableCutsCardSaid :=
  Claim7.holds_tied_plain_at .later [] [.data] true (true, "45426d9979e36fd6cde842c429f23b5ce13de7029a1a795bb441e357bd68e5bf") true
    TableCutsWalk.over (fun _ h => by cases h) (by kernel_rfl) (fun _ h => by cases h) tableCuts_row_tie rfl ⟨rfl, rfl⟩ (by kernel_rfl) rfl
    (fun f fn hf hfn => by
      obtain rfl : f = 9 := Option.some.inj ((show Tryd.prog.funcNamed "marlstone/marlstonelaw11.TableCuts" = some 9 by kernel_rfl).symm.trans hf) |>.symm
      obtain rfl : fn = Tryd.f9 := (Option.some.inj (Tryd.func9.symm.trans hfn)).symm
      exact ⟨by kernel_rfl, fun j t ht => by
        rw [Tryd.params9] at ht
        have hm : t ∈ ([22, 3, 25] : List TypeId) := List.mem_of_getElem? (by simpa using ht)
        simp only [List.mem_cons, List.not_mem_nil, or_false] at hm
        rcases hm with rfl | rfl | rfl <;> exact (show Tryd.prog.wantsStandIn _ = false by kernel_rfl)⟩)
    (by kernel_rfl)
#print axioms tableCuts_holds
end Go.Proofs.YtcgjhopfdpaocaaDoor
