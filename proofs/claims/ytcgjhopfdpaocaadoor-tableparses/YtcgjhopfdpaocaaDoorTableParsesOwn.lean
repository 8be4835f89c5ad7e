/-
  Parse and Get answer of any bytes, and any key, what the document's own reader answers: the same entries or none, the same entry or none, and the same error; what was handed in stays: proved for any bytes (of which the first eight thousand are looked at) and any key, without conditions.
-/
import Derived.Test.YtcgjhopfdpaocaaDoorRows
import Derived.Test.YtcgjhopfdpaocaaDoorCards
import Derived.Test.YtcgjhopfdpaocaaDoorTie
import Derived.Test.YtcgjhopfdpaocaaDoorTableParsesLift
import Derived.ShutString
import Derived.SevenTiedAt
namespace Go.Proofs.YtcgjhopfdpaocaaDoor
namespace TableParsesWalk
open Go.ChangeShapes Go.WideShapes Go.ChangeAt Go.RowKit
set_option maxRecDepth 100000 in
theorem cl_inPlace : (Rows.tableParsesRow.inPlace == Tryd.prog.inPlace 4) = true := by kernel_rfl
set_option maxRecDepth 100000 in
theorem cl_unfollowed : (Rows.tableParsesRow.unfollowed == Tryd.prog.unfollowed 4) = true := by kernel_rfl
set_option maxRecDepth 100000 in
theorem cl_recurses : (Rows.tableParsesRow.recurses == Tryd.prog.recurses 4) = true := by kernel_rfl
set_option maxRecDepth 100000 in
theorem cl_varsNamed : (Rows.tableParsesRow.named == Tryd.prog.varsNamed 4) = true := by kernel_rfl
set_option maxRecDepth 100000 in
theorem closed : joinedFacts Tryd.prog 4 Tryd.f4 Rows.tableParsesSpec Rows.tableParsesRow = true := by
  unfold joinedFacts
  rw [cl_inPlace, cl_unfollowed, cl_recurses, cl_varsNamed]
  kernel_rfl
theorem over : Rows.TableParsesSaid :=
  OpenClaim.holds_of_wide 4 Tryd.f4 rfl rfl rfl rfl rfl rfl rfl ⟨rfl, rfl, rfl, rfl, rfl⟩ rfl rfl rfl rfl rfl (by kernel_rfl) Tryd.func4 closed
    (of_decide_eq_true (by kernel_rfl)) (by unfold Func.isWrapper; first | (rw [if_pos (by decide +kernel)]; kernel_rfl) | (rw [if_neg (by decide +kernel)]; exact ⟨rfl, rfl⟩))
    (fun os started H enc _ => lifted os started H enc)
end TableParsesWalk
/-- The statement. -/
theorem tableParses_holds : Rows.TableParsesCardSaid :=
  Claim7.holds_tied_plain_at .later [] [.data] true (true, "45426d9979e36fd6cde842c429f23b5ce13de7029a1a795bb441e357bd68e5bf") true
    TableParsesWalk.over (fun _ h => by cases h) (by kernel_rfl) (fun _ h => by cases h) tableParses_row_tie rfl ⟨rfl, rfl⟩ (by kernel_rfl) rfl
    (fun f fn hf hfn => by
      obtain rfl : f = 4 := Option.some.inj ((show Tryd.prog.funcNamed "marlstone/marlstonelaw11.TableParses" = some 4 by kernel_rfl).symm.trans hf) |>.symm
      obtain rfl : fn = Tryd.f4 := (Option.some.inj (Tryd.func4.symm.trans hfn)).symm
      exact ⟨by kernel_rfl, fun j t ht => by
        rw [Tryd.params4] at ht
        have hm : t ∈ ([25, 9] : List TypeId) := List.mem_of_getElem? (by simpa using ht)
        simp only [List.mem_cons, List.not_mem_nil, or_false] at hm
        rcases hm with rfl | rfl <;> exact (show Tryd.prog.wantsStandIn _ = false by kernel_rfl)⟩)
    (by kernel_rfl)
#print axioms tableParses_holds
end Go.Proofs.YtcgjhopfdpaocaaDoor
