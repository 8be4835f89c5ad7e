/-
  Who says of a table what is not so, by a span that is taken, has two unlike texts with one sum, told by the clash of the span's leaves: proved for any entries (of which at most seventy, each cut to 130 and 1030 bytes, are folded, and of these at most sixty-four that are right are taken), any number of bits, any keys and any span (of which at most seventy leaves, each cut to 1300 bytes, and at most forty digests are taken), without conditions.
-/
import Derived.Test.YtecacjddggljgaaDoorRows
import Derived.Test.YtecacjddggljgaaDoorCards
import Derived.Test.YtecacjddggljgaaDoorTie
import Derived.Test.YtecacjddggljgaaDoorSeekSpansLift
import Derived.ShutString
import Derived.SevenTiedAt
namespace Go.Proofs.YtecacjddggljgaaDoor
namespace SeekSpansWalk
open Go.ChangeShapes Go.WideShapes Go.ChangeAt Go.RowKit
set_option maxRecDepth 100000 in
theorem cl_inPlace : (Rows.seekSpansRow.inPlace == Tryd.prog.inPlace 7) = true := by kernel_rfl
set_option maxRecDepth 100000 in
theorem cl_unfollowed : (Rows.seekSpansRow.unfollowed == Tryd.prog.unfollowed 7) = true := by kernel_rfl
set_option maxRecDepth 100000 in
theorem cl_recurses : (Rows.seekSpansRow.recurses == Tryd.prog.recurses 7) = true := by kernel_rfl
set_option maxRecDepth 100000 in
theorem cl_varsNamed : (Rows.seekSpansRow.named == Tryd.prog.varsNamed 7) = true := by kernel_rfl
set_option maxRecDepth 100000 in
theorem closed : joinedFacts Tryd.prog 7 Tryd.f7 Rows.seekSpansSpec Rows.seekSpansRow = true := by
  unfold joinedFacts
  rw [cl_inPlace, cl_unfollowed, cl_recurses, cl_varsNamed]
  kernel_rfl
theorem over : Rows.SeekSpansSaid :=
  OpenClaim.holds_of_wide 7 Tryd.f7 rfl rfl rfl rfl rfl rfl rfl ⟨rfl, rfl, rfl, rfl, rfl⟩ rfl rfl rfl rfl rfl (by kernel_rfl) Tryd.func7 closed
    (of_decide_eq_true (by kernel_rfl)) (by unfold Func.isWrapper; first | (rw [if_pos (by decide +kernel)]; kernel_rfl) | (rw [if_neg (by decide +kernel)]; exact ⟨rfl, rfl⟩))
    (fun os started H enc _ => lifted os started H enc)
end SeekSpansWalk
/-- The statement. -/
theorem seekSpans_holds : Rows.SeekSpansCardSaid :=
  Claim7.holds_tied_plain_at .later [] [.data] true (true, "62cdb63f527a011053e881740caf8f56d6a68667533956bfe4d4ea2ab16cfb5d") true
    SeekSpansWalk.over (fun _ h => by cases h) (by kernel_rfl) (fun _ h => by cases h) seekSpans_row_tie rfl ⟨rfl, rfl⟩ (by kernel_rfl) rfl
    (fun f fn hf hfn => by
      obtain rfl : f = 7 := Option.some.inj ((show Tryd.prog.funcNamed "marlstone/marlstonelaw12.SeekSpans" = some 7 by kernel_rfl).symm.trans hf) |>.symm
      obtain rfl : fn = Tryd.f7 := (Option.some.inj (Tryd.func7.symm.trans hfn)).symm
      exact ⟨by kernel_rfl, fun j t ht => by
        rw [Tryd.params7] at ht
        have hm : t ∈ ([22, 3, 9, 9, 39] : List TypeId) := List.mem_of_getElem? (by simpa using ht)
        simp only [List.mem_cons, List.not_mem_nil, or_false] at hm
        rcases hm with rfl | rfl | rfl | rfl | rfl <;> exact (show Tryd.prog.wantsStandIn _ = false by kernel_rfl)⟩)
    (by kernel_rfl)
#print axioms seekSpans_holds
end Go.Proofs.YtecacjddggljgaaDoor
