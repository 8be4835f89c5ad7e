/-
  A slice of digests that came in. No walk.
-/
import Derived.Test.YtecacjddggljgaaDoorFrame
import Derived.Test.YtecacjddggljgaaDoorPartCD
import Derived.Deep.Slices
namespace Go.Proofs.YtecacjddggljgaaDoor.Sm
open Go.ChangeShapes Go.WideShapes Go.ChangeAt Go.RowKit Go.Deep
theorem cells5d : Tryd.prog.cellsOf 5 = 1 := by kernel_rfl
theorem cells24 : Tryd.prog.cellsOf 46 = 32 := by kernel_rfl
/-- The byte in a cell. -/
def byteAt (W : World) (a : Addr) (k : Nat) : UInt8 := UInt8.ofNat (intOf ((W.cell? (a.add k)).getD (.int .u8 0))).toNat
def digAt (W : World) (a : Addr) (i : Nat) : List UInt8 := (List.range 32).map fun j => byteAt W a (i * 32 + j)
theorem digAt_cells {W : World} {a : Addr} {i : Nat} (h : ∀ j, j < 32 → ∃ z : Int, W.cell? (a.add (i * 32 + j)) = some (.int .u8 z) ∧ 0 ≤ z ∧ z ≤ 255) : ∀ j v, (cellsOf (digAt W a i))[j]? = some v → W.cell? (a.add (i * 32 + j)) = some v := by
  intro j v hv
  rw [cellsOf, List.getElem?_map, digAt, List.getElem?_map] at hv
  obtain ⟨c, hc, rfl⟩ := Option.map_eq_some_iff.1 hv
  obtain ⟨k, hk, rfl⟩ := Option.map_eq_some_iff.1 hc
  obtain ⟨hk1, hk2⟩ := List.getElem?_eq_some_iff.1 hk
  simp at hk1 hk2
  subst hk2
  obtain ⟨z, h1, h2, h3⟩ := h j hk1
  have e : byteAt W a (i * 32 + j) = UInt8.ofNat z.toNat := by unfold byteAt; rw [h1]; rfl
  rw [h1, e, toNat_ofNat z.toNat (by omega), Int.toNat_of_nonneg h2]
set_option maxRecDepth 10000 in
theorem open_digests {H : Type} {enc : TypeId × Value → H} {W : World} {a0 : Option Addr} {len cap : Nat} {d : DataW H} {p : List MemPlace}
    (hd : DataW.Trod enc Tryd.prog W 0 (fun _ => true) true 28 (.slice a0 len cap) d p) :
    ∃ ds : List (List UInt8), PathV W a0 ds ∧ ds.length = len ∧ len ≤ cap ∧ cap ≤ 9223372036854775807 ∧ (a0 = none → cap = 0) := by
  obtain ⟨fuel, hf⟩ := hd
  rcases open_slice Tryd.underlying28 hf with ⟨hcs, _⟩ | ⟨a, len', cap', m, n, D, Pl, hcs, hb, hl, hm, hmm, hx, hr⟩
  · simp [Value.cells] at hcs
    obtain ⟨rfl, rfl, rfl⟩ := hcs
    exact ⟨[], ⟨fun d hd => by simp at hd, fun h => absurd h (by simp)⟩, rfl, Nat.le_refl _, by omega, fun _ => rfl⟩
  · simp [Value.cells] at hcs
    obtain ⟨rfl, rfl, rfl⟩ := hcs
    rw [cells24] at hr
    have hmc : m = cap := by rw [hmm]; rfl
    have hall : ∀ i, i < len → ∀ j, j < 32 → ∃ z : Int, W.cell? (a.add (i * 32 + j)) = some (.int .u8 z) ∧ 0 ≤ z ∧ z ≤ 255 := fun i hi j hj => by
      obtain ⟨cs, hc, ht⟩ := hr i (by omega)
      obtain ⟨-, hcl, hce⟩ := World.cells?_some hc
      obtain ⟨xs, q, -, -, -, hxl, hxs⟩ := DataW.trod_array Tryd.underlying46 ht
      have h1 := hxs j hj
      rw [cells5d, Nat.mul_one, List.getElem?_eq_getElem (by omega)] at h1
      obtain ⟨z, h2, -, h3⟩ := DataW.trod_int Tryd.underlying5 h1
      have hz := bounds_u8 h3
      refine ⟨z, ?_, hz.1, hz.2⟩
      have h4 := hce j hj
      rw [Addr.add_add] at h4
      rw [h4]
      have h5 := congrArg (·[0]?) h2
      simpa [List.getElem?_take, List.getElem?_drop] using h5
    obtain ⟨b, off, spot⟩ := a
    refine ⟨(List.range len).map fun i => digAt W ⟨b, off, spot⟩ i, ⟨fun e he => ?_, fun hp => ?_⟩, by simp, hl, by unfold maxLen at hm; omega, fun h => by cases h⟩
    · obtain ⟨i, -, rfl⟩ := List.mem_map.1 he
      simp [digAt]
    · simp at hp
      have hs : spot = none := by
        obtain ⟨z, h, -⟩ := hall 0 hp 0 (by omega)
        simpa [Addr.add] using World.cell?_spot h
      subst hs
      refine ⟨b, off, rfl, fun k e hk j v hv => ?_⟩
      rw [List.getElem?_map] at hk
      obtain ⟨i, hi, rfl⟩ := Option.map_eq_some_iff.1 hk
      obtain ⟨hi1, hi2⟩ := List.getElem?_eq_some_iff.1 hi
      simp at hi1 hi2
      subst hi2
      have h := digAt_cells (hall k hi1) j v hv
      rw [Addr.add_lit] at h
      rw [Nat.add_assoc]
      exact h
end Go.Proofs.YtecacjddggljgaaDoor.Sm
