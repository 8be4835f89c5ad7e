/-
  What slices.SortStableFunc answers at fewer than 20 entries: a contract over this translation.
-/
import Derived.Test.YtfpfjppipkkicaaByKey
import Derived.Test.YtfpfjppipkkicaaShelf
namespace Go.Proofs.Ytfpfjppipkkicaa
open Go.RowKit Go.Sort Go.Shelf
theorem encE_len (x : E) : (encE x).length = 4 := rfl
theorem encE_one (x : E) : ∀ v ∈ encE x, v.oneCell' = true := by
  intro v hv
  simp [encE] at hv
  rcases hv with rfl | rfl | rfl | rfl <;> rfl
theorem enters36 : ∀ args w, (callFunc 36 args).run Try.prog w = .ok (.enter 36 args) w := enters_of Try.func36 (by kernel_rfl) rfl
/-- The entries in the order of key and seq. -/
def srt (d : Array E) : Array E := Sort.insertionSort (ltOf cmpE) d 0 d.size
theorem ins_any (blk off cap : Nat) (d : Array E) (w : World) (hH : HoldsK encE 4 w blk off d) (hblk : blk < w.heap.size) (h20 : d.size < 20) :
    Calls Try.prog 47 #[.slice (some ⟨blk, off, none⟩) d.size cap, .int .i64 (0 : Nat), .int .i64 d.size, .func (.func 36) #[] #[]] w fun e w' =>
      e = .returned (.tuple #[]) ∧ ∃ n os, w' = sortWorldK encE 4 w blk off n (srt d) os :=
  AnyQ.insertionSortCmpFunc Try.insL 4 Try.isAgg23 Try.sizeOf23 encE encE_len encE_one cmpE 36 #[] blk off cap 0 d.size d w enters36 (byKeyLays blk off d.size w) hH hblk (Nat.zero_le _) (Nat.le_refl _) (by omega)
set_option maxRecDepth 100000 in
set_option maxHeartbeats 1600000 in
theorem stable_any (blk off cap : Nat) (d : Array E) (w : World) (hH : HoldsK encE 4 w blk off d) (hblk : blk < w.heap.size) (h20 : d.size < 20) :
    Calls Try.prog 42 #[.slice (some ⟨blk, off, none⟩) d.size cap, .int .i64 d.size, .func (.func 36) #[] #[]] w fun e w' =>
      e = .returned (.tuple #[]) ∧ ∃ n os, w' = sortWorldK encE 4 w blk off n (srt d) os := by
  have hc := ins_any blk off cap d w hH hblk h20
  clear hH
  generalize srt d = r at hc ⊢
  go_enter Try.func42, Try.ntmps42
  go_wp2
  refine wp_loop_rounds 1 ?_
  rw [rounds_succ]
  go_wp2_with (go_at_call 47; refine hc.mono ?_; rintro e w1 ⟨rfl, n, os, rfl⟩)
  refine wp_loop_rounds 1 ?_
  rw [rounds_succ]
  go_wp2
  all_goals first | (exfalso; omega) | (go_end0; exact ⟨rfl, n, _, rfl⟩)
theorem sortStable_any (blk off cap : Nat) (d : Array E) (w : World) (hH : HoldsK encE 4 w blk off d) (hblk : blk < w.heap.size) (h20 : d.size < 20) :
    Calls Try.prog 35 #[.slice (some ⟨blk, off, none⟩) d.size cap, .func (.func 36) #[] #[]] w fun e w' =>
      e = .returned (.tuple #[]) ∧ ∃ n os, w' = sortWorldK encE 4 w blk off n (srt d) os := by
  have hc := stable_any blk off cap d w hH hblk h20
  clear hH
  generalize srt d = r at hc ⊢
  go_enter Try.func35, Try.ntmps35
  go_wp2_with (go_at_call 42; refine hc.mono ?_; rintro e w1 ⟨rfl, n, os, rfl⟩)
  go_end0
  exact ⟨rfl, n, _, rfl⟩
end Go.Proofs.Ytfpfjppipkkicaa
