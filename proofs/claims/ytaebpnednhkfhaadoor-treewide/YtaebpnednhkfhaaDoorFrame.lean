/-
  What the statements' frames share: the table that the condition lays, a digest that came in, a door's heap. No walk.
-/
import Derived.Test.YtaebpnednhkfhaaDoorRows
import Derived.Test.YtaebpnednhkfhaaDoorPartB
import Derived.ProofKit
import Derived.LaidMore
import Derived.MakeChecks
import Derived.LaidLaws
import Derived.LaidHandle
import Derived.Lib.LaidTab
import Derived.Stop.Joined
import Derived.OpenShut
import Derived.ChangeOld
import Derived.Below
import Derived.SizedLaws
namespace Go.Proofs.YtaebpnednhkfhaaDoor
open Go.ChangeShapes Go.WideShapes Go.ChangeAt Go.RowKit
theorem own : ownKnob Tryd.prog.godebug = none := by kernel_rfl
theorem bytes5 : Tryd.prog.bytesOf 5 = 1 := by kernel_rfl
theorem cells5 : Tryd.prog.cellsOf 5 = 1 := by kernel_rfl
theorem cells24 : Tryd.prog.cellsOf 24 = 32 := by kernel_rfl
theorem cells139 : Tryd.prog.cellsOf 139 = 1 := by kernel_rfl
theorem cells148 : Tryd.prog.cellsOf 148 = 64 := by kernel_rfl
theorem laidOut : laidOutB Tryd.prog = true := by kernel_rfl
theorem gK : Tryd.prog.globalNamed "marlstone/sum.cubeRoots" = some 0 := by kernel_rfl
theorem gKType : (Tryd.prog.globals[0]?).map (·.type) = some 148 := by kernel_rfl
abbrev laid1 : List (String × DataW Unit) := [("marlstone/sum.cubeRoots", Rows.laid_marlstone_sum_cubeRoots)]
theorem laid1_tab : laid1 = [("marlstone/sum.cubeRoots", Lib.tabData .u32 (ks.map fun x => (x.toNat : Int)))] := by kernel_rfl
theorem door_met (os : Os) (args : Array Value) : laidMetH Tryd.prog laid1 ((World.doorLaid Tryd.prog 400 os).forCall (fun _ _ => 0) ⟨#[], args, []⟩).memory :=
  laidMetH_of_parts3 (fuel := 8) (laidMet_of_run' 8 (by kernel_rfl) (by kernel_rfl)) (by kernel_rfl) (by kernel_rfl)
theorem ks_of_laid {W : World} (h : laidMetH Tryd.prog laid1 W) : WW W 0 ks ∧ 0 < W.heap.size := by
  rw [MakeChecks.laidMetH_plain _ _ _ (by kernel_rfl)] at h
  rw [laid1_tab] at h
  have hT := Lib.tabIs_of_head gK gKType Tryd.underlying148 Tryd.underlying139 cells139 cells148 h
  have hc : ∀ t : Nat, t < 64 → W.cell? ⟨0, t, none⟩ = some (.int .u32 (ks.getD t 0).toNat) := fun t ht => by
    have hl : t < ks.length := ht
    rw [hT.cell gK t (by simpa using hl)]
    simp [List.getD, hl]
  exact ⟨hc, World.block_lt_of_cell? W _ (hc 0 (by omega))⟩
set_option maxRecDepth 10000 in
/-- An array of 32 bytes that came in. -/
theorem open_digest {H : Type} {enc : TypeId × Value → H} {W : World} {base b0 : Nat} {r : Reach} {v : Value} {d : DataW H} {p : List MemPlace} {sp : Nat → Bool} {held : Bool}
    (hval : Value.okWide Tryd.prog W r b0 24 v) (hd : DataW.Trod enc Tryd.prog W base sp held 24 v d p) : ∃ bs : List UInt8, bs.length = 32 ∧ v = .agg (cellsOf bs).toArray := by
  simp only [Value.okWide, Tryd.underlying24] at hval
  obtain ⟨cs, rfl, hs, _⟩ := hval
  rw [cells24] at hs
  obtain ⟨fuel, hf⟩ := hd
  cases fuel with
  | zero => simp [DataW.trod] at hf
  | succ m =>
    simp only [DataW.trod, Tryd.underlying24, cells24, cells5, Value.cells, Nat.mul_one] at hf
    rw [if_pos (by simpa using hs)] at hf
    obtain ⟨xs, hm, _⟩ := Option.map_eq_some_iff.1 hf
    have hall : ∀ i, i < 32 → ∃ c : UInt8, cs[i]? = some (.int .u8 c.toNat) := fun i hi => by
      obtain ⟨b, hb, hf⟩ := Lib.mapM_at hm i i (by simp [hi])
      obtain ⟨z, hc, _, hw⟩ := DataW.trod_int Tryd.underlying5 hf
      have hz := bounds_u8 hw
      refine ⟨UInt8.ofNat z.toNat, ?_⟩
      have h1 : cs.toList[i]? = some (.int .u8 z) := by
        have := congrArg (·[0]?) hc
        simpa [List.getElem?_take, List.getElem?_drop] using this
      rw [toNat_ofNat z.toNat (by omega), Int.toNat_of_nonneg hz.1]
      simpa using h1
    refine ⟨(List.range 32).map fun i => UInt8.ofNat (intOf (cs[i]?.getD (.int .u8 0))).toNat, by simp, ?_⟩
    congr 1
    apply Array.ext
    · simp [cellsOf, hs]
    · intro i h1 h2
      obtain ⟨c, hc⟩ := hall i (by omega)
      have h3 : cs[i] = .int .u8 c.toNat := by
        have := Array.getElem?_eq_getElem h1
        rw [this] at hc; exact Option.some.inj hc
      have h4 := c.toNat_lt
      have h5 : (intOf (cs[i]?.getD (.int .u8 0))).toNat = c.toNat := by rw [hc]; simp [intOf]
      have h6 : UInt8.ofNat c.toNat = c := by simp
      have h7 : ((fun b : UInt8 => Value.int .u8 b.toNat) ∘ fun i => UInt8.ofNat (intOf (cs[i]?.getD (.int .u8 0))).toNat) i = .int .u8 c.toNat := by
        show Value.int .u8 (UInt8.ofNat (intOf (cs[i]?.getD (.int .u8 0))).toNat).toNat = _
        rw [h5, h6]
      rw [h3, List.getElem_toArray, ← h7]
      simp only [cellsOf, List.map_map, List.getElem_map, List.getElem_range]
end Go.Proofs.YtaebpnednhkfhaaDoor
