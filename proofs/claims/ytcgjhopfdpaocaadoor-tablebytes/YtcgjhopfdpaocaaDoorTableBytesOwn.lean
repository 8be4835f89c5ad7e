/-
  Fit, Leaves, Describe and Bytes answer of any entries what the document's own answers: the same bytes or none, the same leaves, the same that is known, the same errors; what was handed in stays: proved for any entries (of which at most seventy, each cut to 130 and 1030 bytes), any level and any number of bits, without conditions.
-/
import Derived.Test.YtcgjhopfdpaocaaDoorRows
import Derived.Test.YtcgjhopfdpaocaaDoorCards
import Derived.Test.YtcgjhopfdpaocaaDoorTie
import Derived.Test.YtcgjhopfdpaocaaDoorTableBytesLift
import Derived.ShutString
import Derived.SevenTiedAt
namespace Go.Proofs.YtcgjhopfdpaocaaDoor
namespace TableBytesWalk
open Go.ChangeShapes Go.WideShapes Go.ChangeAt Go.RowKit
set_option maxRecDepth 100000 in
theorem cl_inPlace : (Rows.tableBytesRow.inPlace == Tryd.prog.inPlace 3) = true := by kernel_rfl
set_option maxRecDepth 100000 in
theorem cl_unfollowed : (Rows.tableBytesRow.unfollowed == Tryd.prog.unfollowed 3) = true := by kernel_rfl
set_option maxRecDepth 100000 in
theorem cl_recurses : (Rows.tableBytesRow.recurses == Tryd.prog.recurses 3) = true := by kernel_rfl
set_option maxRecDepth 100000 in
theorem cl_varsNamed : (Rows.tableBytesRow.named == Tryd.prog.varsNamed 3) = true := by kernel_rfl
set_option maxRecDepth 100000 in
theorem closed : joinedFacts Tryd.prog 3 Tryd.f3 Rows.tableBytesSpec Rows.tableBytesRow = true := by
  unfold joinedFacts
  rw [cl_inPlace, cl_unfollowed, cl_recurses, cl_varsNamed]
  kernel_rfl
theorem over : Rows.TableBytesSaid :=
  OpenClaim.holds_of_wide 3 Tryd.f3 rfl rfl rfl rfl rfl rfl rfl ⟨rfl, rfl, rfl, rfl, rfl⟩ rfl rfl rfl rfl rfl (by kernel_rfl) Tryd.func3 closed
    (of_decide_eq_true (by kernel_rfl)) (by unfold Func.isWrapper; first | (rw [if_pos (by decide +kernel)]; kernel_rfl) | (rw [if_neg (by decide +kernel)]; exact ⟨rfl, rfl⟩))
    (fun os started H enc _ => lifted os started H enc)
end TableBytesWalk
/-- The statement. -/
theorem tableBytes_holds : Rows.TableBytesCardSaid :=
  Claim7.holds_tied_plain_at .later [] [.data] true (true, "45426d9979e36fd6cde842c429f23b5ce13de7029a1a795bb441e357bd68e5bf") true
    TableBytesWalk.over (fun _ h => by cases h) (by kernel_rfl) (fun _ h => by cases h) tableBytes_row_tie rfl ⟨rfl, rfl⟩ (by kernel_rfl) rfl
    (fun f fn hf hfn => by
      obtain rfl : f = 3 := Option.some.inj ((show Tryd.prog.funcNamed "marlstone/marlstonelaw11.TableBytes" = some 3 by kernel_rfl).symm.trans hf) |>.symm
      obtain rfl : fn = Tryd.f3 := (Option.some.inj (Tryd.func3.symm.trans hfn)).symm
      exact ⟨by kernel_rfl, fun j t ht => by
        rw [Tryd.params3] at ht
        have hm : t ∈ ([22, 3, 3] : List TypeId) := List.mem_of_getElem? (by simpa using ht)
        simp only [List.mem_cons, List.not_mem_nil, or_false] at hm
        rcases hm with rfl | rfl | rfl <;> exact (show Tryd.prog.wantsStandIn _ = false by kernel_rfl)⟩)
    (by kernel_rfl)
#print axioms tableBytes_holds
end Go.Proofs.YtcgjhopfdpaocaaDoor
