/-
  Words in blocks: what lies where, behind an alloc, a draw, a store. No walk.
-/
import Derived.Test.YtiimmknnlciljaaDoorSRot
import Derived.Deep.QuietTactic
import Derived.BigQuiet
import Derived.Deep.MidRow
import Derived.Laws.CopyOwn
import Derived.Deep.RegionWith
namespace Go.Proofs.YtiimmknnlciljaaDoor.Sm
open Go.RowKit
/-- Words as cells. -/
def wcells (l : List UInt32) : List Value := l.map fun x => Value.int .u32 x.toNat
def S8.list (s : S8) : List UInt32 := [s.a, s.b, s.c, s.d, s.e, s.f, s.g, s.h]
/-- 64 words lie in a block. -/
def WW (w : World) (b : Nat) (ws : List UInt32) : Prop := ∀ t : Nat, t < 64 → w.cell? ⟨b, t, none⟩ = some (.int .u32 (ws.getD t 0).toNat)
theorem wcells_getD (l : List UInt32) (t : Nat) (h : t < l.length) : (wcells l).toArray[t]? = some (.int .u32 (l.getD t 0).toNat) := by
  simp [wcells, List.getD, h]
theorem WW_of_block {w : World} {b : Nat} {ws : List UInt32} {ty : TypeId} {fr : Nat × Nat} (hl : ws.length = 64) (h : w.heap[b]? = some (.cells (wcells ws).toArray ty fr)) : WW w b ws := by
  intro t ht
  rw [cell_of_row w b t _ ty fr h]
  exact wcells_getD ws t (by omega)
theorem WW.below {w w' : World} {b B : Nat} {ws : List UInt32} (h : WW w b ws) (hb : Below B w w') (hB : b < B) : WW w' b ws := fun t ht => by
  rw [World.cell?_of_block (hb.block b hB)]; exact h t ht
theorem bel_drewN {B : Nat} {w w' : World} (h : Below B w w') : ∀ n, Below B w (w'.drewN n)
  | 0 => h
  | n + 1 => (bel_drewN h n).drew
theorem size141 : (Tryd.prog.info? 87).map (·.size) = some 8 := by kernel_rfl
theorem wcells_one (l : List UInt32) : (wcells l).toArray.all (·.oneCell') = true :=
  all_oneCell_toArray (fun v hv => by simp only [wcells, List.mem_map] at hv; obtain ⟨x, _, rfl⟩ := hv; rfl)
theorem heap_alloc_get (w : World) (o : Obj) (i : Nat) : (w.alloc o).heap[i]? = if i = w.heap.size then some o else w.heap[i]? := by
  show (w.heap.push o)[i]? = _
  rw [Array.getElem?_push]
end Go.Proofs.YtiimmknnlciljaaDoor.Sm
