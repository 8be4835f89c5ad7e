/-
  What the document's answers marlstoneref02.CRC and marlstoneref02.Hex answer: contracts over this translation.
-/
import Derived.Test.YtecacjddggljgaaDoorPartBH
namespace Go.Proofs.YtecacjddggljgaaDoor.Sm
open Go.RowKit
def strB (s : ByteArray) : List UInt8 := s.data.toList
theorem strB_length (s : ByteArray) : (strB s).length = s.size := by simp [strB]
theorem strB_mk (l : List UInt8) : strB ⟨l.toArray⟩ = l := by simp [strB]
theorem one_cell (w : World) (c : UInt8) (v1 : Value) (h1 : v1 = .int .u8 (c.toNat : Int)) : ∀ j u, (cellsOf [c])[j]? = some u → (w.alloc (.cells #[v1] 5)).cell? (Addr.add ⟨w.heap.size, 0, none⟩ j) = some u := by
  subst h1
  intro j u hu
  rw [Addr.add_lit, Nat.zero_add, cell_of_row _ _ j _ 5 (0, 0) (heap_alloc_new _ _)]
  simpa [cellsOf] using hu
end Go.Proofs.YtecacjddggljgaaDoor.Sm
