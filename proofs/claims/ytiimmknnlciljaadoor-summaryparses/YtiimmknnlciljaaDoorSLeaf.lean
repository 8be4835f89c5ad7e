/-
  What tree.Leaf and tree.Node of a tree answer: contracts over this translation.
-/
import Derived.Test.YtiimmknnlciljaaDoorSDigL
import Derived.Deep.DeepCutAuto
import Derived.Deep.RegionHeld3
namespace Go.Proofs.YtiimmknnlciljaaDoor.Sm
open Go.RowKit
/-- The first bits of a sum. -/
def keptZ (z : Int) (bs : List UInt8) : List UInt8 := keptB (shaB bs) (min (max z 0) 256).toNat 32
theorem keptZ_length (z : Int) (bs : List UInt8) : (keptZ z bs).length = 32 := by unfold keptZ; rw [keptB_length, shaB_length]
def leafD (z : Int) (bs : List UInt8) : List UInt8 := keptZ z (0 :: bs)
def nodeD (z : Int) (l r : List UInt8) : List UInt8 := keptZ z (1 :: (l ++ r))
theorem leafD_length (z : Int) (bs : List UInt8) : (leafD z bs).length = 32 := keptZ_length _ _
theorem nodeD_length (z : Int) (l r : List UInt8) : (nodeD z l r).length = 32 := keptZ_length _ _
/-- A digest as a value. -/
def dv (d : List UInt8) : Value := .agg (cellsOf d).toArray
theorem kept_own (v : Value) (n : Nat) (bs : List UInt8) (z : Int) (w : World) (base : Nat) (hown : w.ownsRow base 5 1 v n (cellsOf bs)) (hn : n ≤ 140737488355328) (hK : WW w 0 ks) (h0 : 0 < w.heap.size) (hz : -9223372036854775808 ≤ z ∧ z ≤ 9223372036854775807) :
    Calls Tryd.prog 27 #[v, .int .i64 z] w fun e w' => e = .returned (dv (keptZ z bs)) ∧ Below w.heap.size w w' := by
  obtain ⟨ao, c, rfl, hb, h1, h2, h3, _⟩ := own_bytes hown
  unfold maxLen at h3
  exact kept_cap ao n c bs z w hb h2 (by omega) (by omega) hK h0 hz.1 hz.2
theorem below_row {B g : Nat} {w w' : World} (h : Below B w w') (hg : B ≤ g) (cs : Array Value) : Below B w (w'.setRow g cs) := below_setRow h hg cs
theorem cells_all (d : List UInt8) : (cellsOf d).toArray.all (·.oneCell') = true := all_oneCell_toArray (cellsOf_one _)
theorem own_one (w : World) (c : UInt8) : (w.alloc (.cells #[.int .u8 (c.toNat : Int)] 5)).ownsRow w.heap.size 5 1 (.slice (some ⟨w.heap.size, 0, none⟩) 1 1) 1 (cellsOf [c]) :=
  ⟨rfl, .inr ⟨w.heap.size, 1, _, rfl, Nat.le_refl _, heap_alloc_new w _, Nat.le_refl _, by unfold maxLen; omega, rfl, rfl⟩⟩
theorem dig_size {d : List UInt8} (h : d.length = 32) : (cellsOf d).toArray.size = 32 := by rw [List.size_toArray, cellsOf_length, h]
theorem cell_row_far {w : World} {g : Nat} {a : Addr} {v : Value} {cs : Array Value} (hc : w.cell? a = some v) (hne : a.block ≠ g) : (w.setRow g cs).cell? a = some v := by
  rw [World.cell?_of_block (((Chg.refl g w).row cs).block a.block (World.block_lt_of_cell? w a hc) hne)]; exact hc
theorem frame2 (w : World) (o1 : Obj) (A : Array Value) (t : TypeId) : ((w.alloc o1).alloc (.cells A t)).heap[w.heap.size]? = some o1 ∧ ((w.alloc o1).alloc (.cells A t)).heap[w.heap.size + 1]? = some (.cells A t (0, 0)) ∧ Below w.heap.size w ((w.alloc o1).alloc (.cells A t)) ∧ ((w.alloc o1).alloc (.cells A t)).heap.size = w.heap.size + 2 := by
  refine ⟨?_, ?_, (bel_alloc w _).trans ((bel_alloc _ _).mono (by simp)), by simp⟩
  · rw [Below.heap_alloc _ _ _ (by simp)]; exact heap_alloc_new w _
  · have := heap_alloc_new (w.alloc o1) (.cells A t)
    simpa using this
theorem bel_cell2 {w w' : World} {B : Nat} {a : Addr} {v : Value} (h : Below B w w') (hB : w.heap.size ≤ B) (hc : w.cell? a = some v) : w'.cell? a = some v := by
  rw [h.cell (Nat.lt_of_lt_of_le (World.block_lt_of_cell? w a hc) hB)]; exact hc
theorem frame4 (w : World) (o1 o2 o3 : Obj) (A : Array Value) (t : TypeId) :
    ∀ W, W = (((w.alloc o1).alloc o2).alloc o3).alloc (.cells A t) → W.heap[w.heap.size]? = some o1 ∧ W.heap[w.heap.size + 1]? = some o2 ∧ W.heap[w.heap.size + 2]? = some o3 ∧ W.heap[w.heap.size + 3]? = some (.cells A t (0, 0)) ∧ Below w.heap.size w W ∧ W.heap.size = w.heap.size + 4 := by
  rintro W rfl
  obtain ⟨h1, h2, h3, -⟩ := frame2 ((w.alloc o1).alloc o2) o3 A t
  simp only [World.size_alloc] at h1 h2 h3
  refine ⟨?_, ?_, h1, h2, ((bel_alloc w _).trans ((bel_alloc _ _).mono (by simp))).trans (h3.mono (by omega)), by simp⟩
  · rw [h3.block _ (by omega), Below.heap_alloc _ _ _ (by simp)]; exact heap_alloc_new w _
  · rw [h3.block _ (by omega)]
    have := heap_alloc_new (w.alloc o1) o2
    simpa using this
theorem own_drew {w : World} {base n : Nat} {v : Value} {xs : List Value} (h : w.ownsRow base 5 1 v n xs) : w.drew.ownsRow base 5 1 v n xs := own_below h (Below.drew (Below.refl _ _)) (Nat.le_refl _)
theorem bytes32 {w : World} {g : Nat} {d : List UInt8} {t : TypeId} {fr : Nat × Nat} (h : w.heap[g]? = some (.cells (cellsOf d).toArray t fr)) (hd : d.length = 32) : Bytes w (some ⟨g, 0, none⟩) 32 d := by
  have := block_bytes h
  rw [hd] at this
  exact this
end Go.Proofs.YtiimmknnlciljaaDoor.Sm
