/-
  A slice of slices of bytes that came in. No walk.
-/
import Derived.Test.YtecacjddggljgaaDoorFrame
import Derived.Test.YtecacjddggljgaaDoorPartBH
import Derived.Deep.Matrix
namespace Go.Proofs.YtecacjddggljgaaDoor.Sm
open Go.ChangeShapes Go.WideShapes Go.ChangeAt Go.RowKit Go.Deep
theorem cells5r : Tryd.prog.cellsOf 5 = 1 := by kernel_rfl
theorem cells36 : Tryd.prog.cellsOf 27 = 1 := by kernel_rfl
theorem open_pieces {H : Type} {enc : TypeId × Value → H} {W : World} {a0 : Option Addr} {len cap : Nat} {d : DataW H} {p : List MemPlace}
    (hd : DataW.Trod enc Tryd.prog W 0 (fun _ => true) true 37 (.slice a0 len cap) d p) :
    ∃ (b off : Nat) (ps : List PP), Pieces W b off ps ∧ ps.length = len ∧ (0 < len → a0 = some ⟨b, off, none⟩) ∧ len ≤ cap ∧ cap ≤ 9223372036854775807 := by
  obtain ⟨fuel, hf⟩ := hd
  rcases open_int_rows Tryd.underlying37 Tryd.underlying27 Tryd.underlying5 cells36 cells5r hf with ⟨hcs, _⟩ | ⟨a, len', cap', A, L, C, Z, hcs, _, hl, hm, _, hr⟩
  · simp [Value.cells] at hcs
    obtain ⟨rfl, rfl, rfl⟩ := hcs
    exact ⟨0, 0, [], fun i p hp => by simp at hp, rfl, fun h => by omega, Nat.le_refl _, by omega⟩
  · simp [Value.cells] at hcs
    obtain ⟨rfl, rfl, rfl⟩ := hcs
    obtain ⟨b, off, spot⟩ := a
    have hspot : 0 < len → spot = none := fun h0 => by simpa [Addr.add] using World.cell?_spot ((hr 0 (by omega)).1)
    refine ⟨b, off, (List.range len).map fun r => ⟨A r, L r, C r, ((Z r).take (L r)).map fun z => UInt8.ofNat z.toNat⟩, fun i p hp => ?_, by simp, fun h => by rw [hspot h], hl, by unfold maxLen at hm; omega⟩
    simp only [List.getElem?_map, Option.map_eq_some_iff] at hp
    obtain ⟨r, hri, rfl⟩ := hp
    have hri2 := List.getElem?_eq_some_iff.1 hri
    obtain ⟨hlt, hrr⟩ := hri2
    simp at hlt hrr
    subst hrr
    have hs := hspot (by omega)
    subst hs
    obtain ⟨h1, h2, h3, h4, h5, h6, h7⟩ := hr i (by omega)
    refine ⟨by rw [← Addr.add_lit]; exact h1, ⟨by simp; omega, fun j c hj => ?_⟩, h2, by unfold maxLen at h3; exact h3, h6⟩
    simp only [List.getElem?_map, Option.map_eq_some_iff] at hj
    obtain ⟨z, hz, rfl⟩ := hj
    rw [List.getElem?_take] at hz
    split at hz
    · rename_i hjl
      have hmem : z ∈ Z i := List.mem_of_getElem? hz
      have hb := bounds_u8 (h5 z hmem)
      cases hA : A i with
      | none => have := h6 hA; simp only at *; omega
      | some x =>
        refine ⟨x, rfl, ?_⟩
        rw [(h7 x hA).2 j (by simp only at *; omega)]
        have hg : (Z i).getD j 0 = z := by rw [List.getD_eq_getElem?_getD, hz]; rfl
        rw [hg, toNat_ofNat z.toNat (by omega), Int.toNat_of_nonneg hb.1]
    · cases hz
end Go.Proofs.YtecacjddggljgaaDoor.Sm
