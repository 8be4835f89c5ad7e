/-
  Rows of bytes and of numbers that came in, with their bulk. No walk.
-/
import Derived.Test.YtomeghngjiaofaaArgsU
import Derived.Test.YtomeghngjiaofaaOrdW
namespace Go.Proofs.Ytomeghngjiaofaa
open Go.ChangeShapes Go.WideShapes Go.ChangeAt Go.RowKit Go.Joins Go.Deep
theorem cells3 : Try.prog.cellsOf 3 = 1 := by kernel_rfl
theorem bulk_sum {H : Type} (l : List Nat) (f : Nat → Nat) (G : Nat → DataW H) (h : ∀ r ∈ l, f r ≤ Rows.uptoBulk (G r)) : (l.map f).sum ≤ Rows.uptoBulkAll (l.map G) := by
  induction l with
  | nil => exact Nat.zero_le _
  | cons a l ih =>
    have h1 := h a List.mem_cons_self
    have h2 := ih (fun r hr => h r (List.mem_cons_of_mem _ hr))
    simp only [List.map_cons, List.sum_cons, Rows.uptoBulkAll]
    omega
theorem open_piecesU {H : Type} {enc : TypeId × Value → H} {W : World} {a0 : Option Addr} {len cap : Nat} {d : DataW H} {p : List MemPlace}
    (hd : DataW.Trod enc Try.prog W 0 (fun _ => true) true 51 (.slice a0 len cap) d p) :
    ∃ (b off : Nat) (ps : List SV), PartsAt W b off ps ∧ ps.length = len ∧ (0 < len → a0 = some ⟨b, off, none⟩) ∧ len ≤ cap ∧ cap ≤ 9223372036854775807 ∧ (ps.map fun p => p.n).sum ≤ Rows.uptoBulk d := by
  obtain ⟨fuel, hf⟩ := hd
  rcases open_int_rows Try.underlying51 Try.underlying28 Try.underlying5 cells28 cells5 hf with ⟨hcs, _⟩ | ⟨a, len', cap', A, L, C, Z, hcs, _, hl, hm, hx, hr⟩
  · simp [Value.cells] at hcs
    obtain ⟨rfl, rfl, rfl⟩ := hcs
    exact ⟨0, 0, [], fun i p hp => by simp at hp, rfl, fun h => by omega, Nat.le_refl _, by omega, Nat.zero_le _⟩
  · simp [Value.cells] at hcs
    obtain ⟨rfl, rfl, rfl⟩ := hcs
    have hxd : d = .slice ((List.range len).map fun r => intRow .u8 (A r) (L r) (Z r)) ((List.range (cap - len)).map fun j => intRow .u8 (A (len + j)) (L (len + j)) (Z (len + j))) := congrArg Prod.fst hx
    obtain ⟨b, off, spot⟩ := a
    have hspot : 0 < len → spot = none := fun h0 => by simpa [Addr.add] using World.cell?_spot ((hr 0 (by omega)).1)
    refine ⟨b, off, (List.range len).map fun r => ⟨A r, L r, C r, ((Z r).take (L r)).map fun z => UInt8.ofNat z.toNat⟩, fun i p hp => ?_, by simp, fun h => by rw [hspot h], hl, by unfold maxLen at hm; omega, ?_⟩
    · simp only [List.getElem?_map, Option.map_eq_some_iff] at hp
      obtain ⟨r, hri, rfl⟩ := hp
      have hri2 := List.getElem?_eq_some_iff.1 hri
      obtain ⟨hlt, hrr⟩ := hri2
      simp at hlt hrr
      subst hrr
      have hs := hspot (by omega)
      subst hs
      obtain ⟨h1, h2, h3, h4, h5, h6, h7⟩ := hr i (by omega)
      refine ⟨by rw [← Addr.add_lit]; exact h1, ⟨by simp; omega, fun j c hj => ?_⟩, h6, h2, by unfold maxLen at h3; exact h3⟩
      simp only [List.getElem?_map, Option.map_eq_some_iff] at hj
      obtain ⟨z, hz, rfl⟩ := hj
      rw [List.getElem?_take] at hz
      split at hz
      · rename_i hjl
        have hmem : z ∈ Z i := List.mem_of_getElem? hz
        have hb := bounds_u8 (h5 z hmem)
        cases hA : A i with
        | none => have := h6 hA; simp only at *; omega
        | some x =>
          refine ⟨x, rfl, ?_⟩
          rw [(h7 x hA).2 j (by simp only at *; omega)]
          have hg : (Z i).getD j 0 = z := by rw [List.getD_eq_getElem?_getD, hz]; rfl
          rw [hg, toNat_ofNat z.toNat (by omega), Int.toNat_of_nonneg hb.1]
      · cases hz
    · rw [hxd, List.map_map]
      have h9 := bulk_sum (H := H) (List.range len) L (fun r => intRow .u8 (A r) (L r) (Z r)) (fun r hr' => by
        obtain ⟨h1, h2, h3, h4, h5, h6, h7⟩ := hr r (by have := List.mem_range.1 hr'; omega)
        cases hA : A r with
        | none => have := h6 hA; omega
        | some x =>
          show L r ≤ Rows.uptoBulk (DataW.slice (lits .u8 ((Z r).take (L r))) (lits .u8 ((Z r).drop (L r))))
          simp only [Rows.uptoBulk, bulk_lits, List.length_take]
          omega)
      simp only [Rows.uptoBulk]
      exact Nat.le_trans h9 (by omega)
theorem open_intsA {H : Type} {enc : TypeId × Value → H} {W : World} {a0 : Option Addr} {len cap : Nat} {d : DataW H} {p : List MemPlace}
    (hd : DataW.Trod enc Try.prog W 0 (fun _ => true) true 52 (.slice a0 len cap) d p) : ∃ (b off : Nat) (zs : List Int), IntsAt W b off zs ∧ zs.length = len ∧ (0 < len → a0 = some ⟨b, off, none⟩) ∧ len ≤ cap ∧ cap ≤ 9223372036854775807 := by
  obtain ⟨fuel, hf⟩ := hd
  rcases open_ints Try.underlying52 Try.underlying3 cells3 hf with ⟨hcs, _⟩ | ⟨a, len', cap', zs, hcs, _, hl, hm, hz, _, hr, _⟩
  · simp [Value.cells] at hcs
    obtain ⟨rfl, rfl, rfl⟩ := hcs
    exact ⟨0, 0, [], fun i p hp => by simp at hp, rfl, fun h => by omega, Nat.le_refl _, by omega⟩
  · simp [Value.cells] at hcs
    obtain ⟨rfl, rfl, rfl⟩ := hcs
    have hz' : zs.length = cap := by simpa using hz
    obtain ⟨b, off, spot⟩ := a
    have hspot : 0 < len → spot = none := fun h0 => by simpa [Addr.add] using World.cell?_spot (hr 0 (by omega))
    refine ⟨b, off, zs.take len, fun i t ht => ?_, by rw [List.length_take]; omega, fun h => by rw [hspot h], hl, by unfold maxLen at hm; omega⟩
    rw [List.getElem?_take] at ht
    split at ht
    · rename_i hil
      have hs := hspot (by omega)
      subst hs
      have h5 := hr i (by omega)
      rw [Addr.add_lit] at h5
      rw [h5, List.getD_eq_getElem?_getD, ht]
      rfl
    · cases ht
end Go.Proofs.Ytomeghngjiaofaa
