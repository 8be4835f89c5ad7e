/-
  What is known of a list's table is its level, how many entries there are, its first and its last key, and the root of its leaves, each of which is read as its entry; of no list, and at a level that there is not, nothing is known: proved for any entries (of which at most seventy, each cut to 130 and 1030 bytes, are folded, and of these at most sixty-four that are right are taken), any level and any number of bits, without conditions.
-/
import Derived.Test.YtcgjhopfdpaocaaDoorRows
import Derived.Test.YtcgjhopfdpaocaaDoorCards
import Derived.Test.YtcgjhopfdpaocaaDoorTie
import Derived.Test.YtcgjhopfdpaocaaDoorTableKnownLift
import Derived.ShutString
import Derived.SevenTiedAt
namespace Go.Proofs.YtcgjhopfdpaocaaDoor
namespace TableKnownWalk
open Go.ChangeShapes Go.WideShapes Go.ChangeAt Go.RowKit
set_option maxRecDepth 100000 in
theorem cl_inPlace : (Rows.tableKnownRow.inPlace == Tryd.prog.inPlace 7) = true := by kernel_rfl
set_option maxRecDepth 100000 in
theorem cl_unfollowed : (Rows.tableKnownRow.unfollowed == Tryd.prog.unfollowed 7) = true := by kernel_rfl
set_option maxRecDepth 100000 in
theorem cl_recurses : (Rows.tableKnownRow.recurses == Tryd.prog.recurses 7) = true := by kernel_rfl
set_option maxRecDepth 100000 in
theorem cl_varsNamed : (Rows.tableKnownRow.named == Tryd.prog.varsNamed 7) = true := by kernel_rfl
set_option maxRecDepth 100000 in
theorem closed : joinedFacts Tryd.prog 7 Tryd.f7 Rows.tableKnownSpec Rows.tableKnownRow = true := by
  unfold joinedFacts
  rw [cl_inPlace, cl_unfollowed, cl_recurses, cl_varsNamed]
  kernel_rfl
theorem over : Rows.TableKnownSaid :=
  OpenClaim.holds_of_wide 7 Tryd.f7 rfl rfl rfl rfl rfl rfl rfl ⟨rfl, rfl, rfl, rfl, rfl⟩ rfl rfl rfl rfl rfl (by kernel_rfl) Tryd.func7 closed
    (of_decide_eq_true (by kernel_rfl)) (by unfold Func.isWrapper; first | (rw [if_pos (by decide +kernel)]; kernel_rfl) | (rw [if_neg (by decide +kernel)]; exact ⟨rfl, rfl⟩))
    (fun os started H enc _ => lifted os started H enc)
end TableKnownWalk
/-- The statement. -/
theorem tableKnown_holds : Rows.TableKnownCardSaid :=
  Claim7.holds_tied_plain_at .later [] [.data] true (true, "45426d9979e36fd6cde842c429f23b5ce13de7029a1a795bb441e357bd68e5bf") true
    TableKnownWalk.over (fun _ h => by cases h) (by kernel_rfl) (fun _ h => by cases h) tableKnown_row_tie rfl ⟨rfl, rfl⟩ (by kernel_rfl) rfl
    (fun f fn hf hfn => by
      obtain rfl : f = 7 := Option.some.inj ((show Tryd.prog.funcNamed "marlstone/marlstonelaw11.TableKnown" = some 7 by kernel_rfl).symm.trans hf) |>.symm
      obtain rfl : fn = Tryd.f7 := (Option.some.inj (Tryd.func7.symm.trans hfn)).symm
      exact ⟨by kernel_rfl, fun j t ht => by
        rw [Tryd.params7] at ht
        have hm : t ∈ ([22, 3, 3] : List TypeId) := List.mem_of_getElem? (by simpa using ht)
        simp only [List.mem_cons, List.not_mem_nil, or_false] at hm
        rcases hm with rfl | rfl | rfl <;> exact (show Tryd.prog.wantsStandIn _ = false by kernel_rfl)⟩)
    (by kernel_rfl)
#print axioms tableKnown_holds
end Go.Proofs.YtcgjhopfdpaocaaDoor
