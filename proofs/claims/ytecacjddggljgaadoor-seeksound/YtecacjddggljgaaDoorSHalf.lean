/-
  The greatest power of two below a number, once more.
-/
import Derived.Test.YtecacjddggljgaaDoorPartBJ
namespace Go.Proofs.YtecacjddggljgaaDoor.Sm
open Go.RowKit
theorem half_is {n j : Nat} (h1 : 2 ^ j < n) (h2 : n ≤ 2 * 2 ^ j) (hn : n ≤ 9223372036854775807) : halfN n = 2 ^ j := by
  have hp : 1 ≤ 2 ^ j := Nat.one_le_two_pow
  obtain ⟨-, a2, a3, -, -⟩ := halfN_spec n (by omega) hn
  unfold halfN at a2 a3 ⊢
  generalize Lib.bitLen (n - 1) - 1 = i at a2 a3 ⊢
  have e1 : 2 ^ i < 2 ^ (j + 1) := by rw [Nat.pow_succ]; omega
  have e2 : 2 ^ j < 2 ^ (i + 1) := by rw [Nat.pow_succ]; omega
  have f1 := (Nat.pow_lt_pow_iff_right (by decide : 1 < 2)).1 e1
  have f2 := (Nat.pow_lt_pow_iff_right (by decide : 1 < 2)).1 e2
  rw [show i = j by omega]
theorem wsub {n q : Nat} (h : q ≤ n) (hn : n ≤ 9223372036854775807) : wrap64 ((n : Int) - (q : Int)) = ((n - q : Nat) : Int) := by unfold wrap64; omega
theorem range_of {w : World} {g : Nat} {d : List UInt8} {t : TypeId} {fr : Nat × Nat} (h : w.heap[g]? = some (.cells (cellsOf d).toArray t fr)) : w.rangeAt g 0 (cellsOf d) := fun j v hv => by
  rw [Nat.zero_add, cell_of_row w g j _ t fr h]
  simpa using hv
theorem range_bel {w w' : World} {B g o : Nat} {cs : List Value} (h : w.rangeAt g o cs) (hb : Below B w w') (hB : w.heap.size ≤ B) : w'.rangeAt g o cs := fun j v hv => bel_cell2 hb hB (h j v hv)
theorem range_far {w : World} {g k o : Nat} {cs : List Value} {ds : Array Value} (h : w.rangeAt g o cs) (hne : g ≠ k) : (w.setRow k ds).rangeAt g o cs := fun j v hv => cell_row_far (h j v hv) hne
theorem frame3a (w : World) (o1 o2 o3 : Obj) : (((w.alloc o1).alloc o2).alloc o3).heap[w.heap.size]? = some o1 ∧ (((w.alloc o1).alloc o2).alloc o3).heap[w.heap.size + 1]? = some o2 ∧ (((w.alloc o1).alloc o2).alloc o3).heap[w.heap.size + 1 + 1]? = some o3 ∧ Below w.heap.size w (((w.alloc o1).alloc o2).alloc o3) ∧ (((w.alloc o1).alloc o2).alloc o3).heap.size = w.heap.size + 3 := by
  obtain ⟨h1, h2, h3⟩ := frame3 w o1 o2 o3
  refine ⟨?_, h1, h2, h3, by simp⟩
  rw [Below.heap_alloc _ _ _ (by simp; omega), Below.heap_alloc _ _ _ (by simp)]
  exact heap_alloc_new w _
theorem wsm {t : Int} (h1 : -9223372036854775808 ≤ t) (h2 : t ≤ 9223372036854775807) : wrap64 t = t := by unfold wrap64; omega
end Go.Proofs.YtecacjddggljgaaDoor.Sm
