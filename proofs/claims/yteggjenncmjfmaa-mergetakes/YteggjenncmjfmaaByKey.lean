/-
  What entry.byKeyAndSeq answers, and the comparison's laws: a contract over this translation.
-/
import Derived.Test.YteggjenncmjfmaaCmp
namespace Go.Proofs.Yteggjenncmjfmaa
open Go.RowKit Go.Sort
theorem heap_alloc_get (w : World) (o : Obj) (i : Nat) : (w.alloc o).heap[i]? = if i = w.heap.size then some o else w.heap[i]? := by
  show (w.heap.push o)[i]? = _
  rw [Array.getElem?_push]
theorem pair_cell (u v : Value) (t : TypeId) (W : World) (g : Nat) (hg : g = W.heap.size) :
    (W.alloc (Obj.cells #[u, v] t)).drew.cell? ⟨g, 0, none⟩ = some u ∧ (W.alloc (Obj.cells #[u, v] t)).drew.cell? ⟨g, 1, none⟩ = some v := by
  have h : (W.alloc (Obj.cells #[u, v] t)).drew.heap[g]? = some (.cells #[u, v] t) := by
    show (W.alloc _).heap[g]? = _
    rw [heap_alloc_get, if_pos hg]
  exact ⟨by rw [cell_of_row _ _ _ _ _ _ h]; rfl, by rw [cell_of_row _ _ _ _ _ _ h]; rfl⟩
variable [Inhabited E]
end Go.Proofs.Yteggjenncmjfmaa
