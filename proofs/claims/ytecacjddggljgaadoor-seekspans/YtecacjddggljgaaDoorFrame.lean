/-
  What the statements' frames share: the table that the condition lays, a door's heap. No walk.
-/
import Derived.Test.YtecacjddggljgaaDoorRows
import Derived.Test.YtecacjddggljgaaDoorPartCA
import Derived.ProofKit
import Derived.LaidMore
import Derived.MakeChecks
import Derived.LaidLaws
import Derived.LaidHandle
import Derived.Lib.LaidTab
import Derived.Stop.Joined
import Derived.OpenShut
import Derived.ChangeOld
import Derived.Below
import Derived.SizedLaws
namespace Go.Proofs.YtecacjddggljgaaDoor
open Go.ChangeShapes Go.WideShapes Go.ChangeAt Go.RowKit
theorem knob : ownKnob Tryd.prog.godebug = none := by kernel_rfl
theorem cells73 : Tryd.prog.cellsOf 196 = 1 := by kernel_rfl
theorem cellsA : Tryd.prog.cellsOf 205 = 64 := by kernel_rfl
theorem outLaid : laidOutB Tryd.prog = true := by kernel_rfl
theorem gK : Tryd.prog.globalNamed "marlstone/sum.cubeRoots" = some 1 := by kernel_rfl
theorem gKType : (Tryd.prog.globals[1]?).map (·.type) = some 205 := by kernel_rfl
abbrev laid1 : List (String × DataW Unit) := [("marlstone/sum.cubeRoots", Rows.laid_marlstone_sum_cubeRoots)]
theorem laid1_tab : laid1 = [("marlstone/sum.cubeRoots", Lib.tabData .u32 (Sm.ks.map fun x => (x.toNat : Int)))] := by kernel_rfl
theorem door_met (os : Os) (args : Array Value) : laidMetH Tryd.prog laid1 ((World.doorLaid Tryd.prog 400 os).forCall (fun _ _ => 0) ⟨#[], args, []⟩).memory :=
  laidMetH_of_parts3 (fuel := 8) (laidMet_of_run' 8 (by kernel_rfl) (by kernel_rfl)) (by kernel_rfl) (by kernel_rfl)
theorem ks_of_laid {W : World} (h : laidMetH Tryd.prog laid1 W) : Sm.WW W 1 Sm.ks ∧ 1 < W.heap.size := by
  rw [MakeChecks.laidMetH_plain _ _ _ (by kernel_rfl)] at h
  rw [laid1_tab] at h
  have hT := Lib.tabIs_of_head gK gKType Tryd.underlying205 Tryd.underlying196 cells73 cellsA h
  have hc : ∀ t : Nat, t < 64 → W.cell? ⟨1, t, none⟩ = some (.int .u32 (Sm.ks.getD t 0).toNat) := fun t ht => by
    have hl : t < Sm.ks.length := ht
    rw [hT.cell gK t (by simpa using hl)]
    simp [List.getD, hl]
  exact ⟨hc, World.block_lt_of_cell? W _ (hc 0 (by omega))⟩
end Go.Proofs.YtecacjddggljgaaDoor
