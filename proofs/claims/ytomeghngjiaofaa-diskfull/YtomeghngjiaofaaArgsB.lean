/-
  Slices that came in, with their bounds: rows of bytes, bools. No walk.
-/
import Derived.Test.YtomeghngjiaofaaArgs
import Derived.Test.YtomeghngjiaofaaFulW
import Derived.Deep.Grids
import Derived.SizedLaws
namespace Go.Proofs.Ytomeghngjiaofaa
open Go.ChangeShapes Go.WideShapes Go.ChangeAt Go.RowKit Go.Joins Go.Deep
theorem bytes5 : Try.prog.bytesOf 5 = 1 := by kernel_rfl
theorem cells4 : Try.prog.cellsOf 4 = 1 := by kernel_rfl
theorem weights_all {H : Type} {e : TypeId} {l : List (DataW H)} {d : DataW H} (h : d ∈ l) {n : Nat} (hn : n ∈ d.weights Try.prog e) : n ∈ DataW.weightsAll Try.prog e l := by
  induction l with
  | nil => cases h
  | cons x l ih =>
    simp only [DataW.weightsAll, List.mem_append]
    rcases List.mem_cons.1 h with rfl | h
    · exact .inl hn
    · exact .inr (ih h)
theorem weights_row {H : Type} {A : Option Addr} {L C : Nat} {zs : List Int} (hl : zs.length = C) (h0 : A = none → C = 0) : C = 0 ∨ C ∈ (intRow (H := H) .u8 A L zs).weights Try.prog 28 := by
  cases A with
  | none => exact .inl (h0 rfl)
  | some a =>
    right
    show C ∈ (DataW.slice (lits .u8 (zs.take L)) (lits .u8 (zs.drop L))).weights Try.prog 28
    unfold DataW.weights
    rw [Try.underlying28]
    simp only [bytes5, Nat.mul_one, lits, List.length_map]
    rw [← List.length_append, List.take_append_drop, hl]
    exact List.mem_cons_self
theorem open_piecesS {H : Type} {enc : TypeId × Value → H} {W : World} {a0 : Option Addr} {len cap : Nat} {d : DataW H} {p : List MemPlace}
    (hd : DataW.Trod enc Try.prog W 0 (fun _ => true) true 51 (.slice a0 len cap) d p) (hw : ∀ n ∈ d.weights Try.prog 51, n ≤ reachBytes) :
    ∃ (b off : Nat) (ps : List SV), PartsAt W b off ps ∧ ps.length = len ∧ (0 < len → a0 = some ⟨b, off, none⟩) ∧ len ≤ cap ∧ cap ≤ 9223372036854775807 ∧ ∀ p ∈ ps, p.n ≤ 140737488351232 := by
  obtain ⟨fuel, hf⟩ := hd
  rcases open_int_rows Try.underlying51 Try.underlying28 Try.underlying5 cells28 cells5 hf with ⟨hcs, _⟩ | ⟨a, len', cap', A, L, C, Z, hcs, _, hl, hm, hx, hr⟩
  · simp [Value.cells] at hcs
    obtain ⟨rfl, rfl, rfl⟩ := hcs
    exact ⟨0, 0, [], fun i p hp => by simp at hp, rfl, fun h => by omega, Nat.le_refl _, by omega, fun p hp => by cases hp⟩
  · simp [Value.cells] at hcs
    obtain ⟨rfl, rfl, rfl⟩ := hcs
    have hxd : d = .slice ((List.range len).map fun r => intRow .u8 (A r) (L r) (Z r)) ((List.range (cap - len)).map fun j => intRow .u8 (A (len + j)) (L (len + j)) (Z (len + j))) := congrArg Prod.fst hx
    obtain ⟨b, off, spot⟩ := a
    have hspot : 0 < len → spot = none := fun h0 => by simpa [Addr.add] using World.cell?_spot ((hr 0 (by omega)).1)
    refine ⟨b, off, (List.range len).map fun r => ⟨A r, L r, C r, ((Z r).take (L r)).map fun z => UInt8.ofNat z.toNat⟩, fun i p hp => ?_, by simp, fun h => by rw [hspot h], hl, by unfold maxLen at hm; omega, fun p hp => ?_⟩
    · simp only [List.getElem?_map, Option.map_eq_some_iff] at hp
      obtain ⟨r, hri, rfl⟩ := hp
      have hri2 := List.getElem?_eq_some_iff.1 hri
      obtain ⟨hlt, hrr⟩ := hri2
      simp at hlt hrr
      subst hrr
      have hs := hspot (by omega)
      subst hs
      obtain ⟨h1, h2, h3, h4, h5, h6, h7⟩ := hr i (by omega)
      refine ⟨by rw [← Addr.add_lit]; exact h1, ⟨by simp; omega, fun j c hj => ?_⟩, h6, h2, by unfold maxLen at h3; exact h3⟩
      simp only [List.getElem?_map, Option.map_eq_some_iff] at hj
      obtain ⟨z, hz, rfl⟩ := hj
      rw [List.getElem?_take] at hz
      split at hz
      · rename_i hjl
        have hmem : z ∈ Z i := List.mem_of_getElem? hz
        have hb := bounds_u8 (h5 z hmem)
        cases hA : A i with
        | none => have := h6 hA; simp only at *; omega
        | some x =>
          refine ⟨x, rfl, ?_⟩
          rw [(h7 x hA).2 j (by simp only at *; omega)]
          have hg : (Z i).getD j 0 = z := by rw [List.getD_eq_getElem?_getD, hz]; rfl
          rw [hg, toNat_ofNat z.toNat (by omega), Int.toNat_of_nonneg hb.1]
      · cases hz
    · obtain ⟨r, hr', rfl⟩ := List.mem_map.1 hp
      have hrl := List.mem_range.1 hr'
      obtain ⟨h1, h2, h3, h4, h5, h6, h7⟩ := hr r (by omega)
      show L r ≤ _
      rcases weights_row (H := H) (L := L r) h4 h6 with h8 | h8
      · omega
      · have h9 := hw (C r) (by
          rw [hxd]
          unfold DataW.weights
          rw [Try.underlying51]
          exact List.mem_cons_of_mem _ (List.mem_append_left _ (weights_all (List.mem_map.2 ⟨r, hr', rfl⟩) h8)))
        unfold reachBytes at h9
        omega
theorem open_boolsA {H : Type} {enc : TypeId × Value → H} {W : World} {a0 : Option Addr} {len cap : Nat} {d : DataW H} {p : List MemPlace}
    (hd : DataW.Trod enc Try.prog W 0 (fun _ => true) true 59 (.slice a0 len cap) d p) : ∃ (b off : Nat) (ts : List Bool), BoolsAt W b off ts ∧ ts.length = len ∧ (0 < len → a0 = some ⟨b, off, none⟩) ∧ len ≤ cap ∧ cap ≤ 9223372036854775807 := by
  obtain ⟨fuel, hf⟩ := hd
  rcases open_bools Try.underlying59 Try.underlying4 cells4 hf with ⟨hcs, _⟩ | ⟨a, len', cap', B, hcs, _, hl, hm, _, hr⟩
  · simp [Value.cells] at hcs
    obtain ⟨rfl, rfl, rfl⟩ := hcs
    exact ⟨0, 0, [], fun i p hp => by simp at hp, rfl, fun h => by omega, Nat.le_refl _, by omega⟩
  · simp [Value.cells] at hcs
    obtain ⟨rfl, rfl, rfl⟩ := hcs
    obtain ⟨b, off, spot⟩ := a
    have hspot : 0 < len → spot = none := fun h0 => by simpa [Addr.add] using World.cell?_spot (hr 0 (by omega))
    refine ⟨b, off, (List.range len).map B, fun i t ht => ?_, by simp, fun h => by rw [hspot h], hl, by unfold maxLen at hm; omega⟩
    simp only [List.getElem?_map, Option.map_eq_some_iff] at ht
    obtain ⟨r, hri, rfl⟩ := ht
    obtain ⟨hlt, hrr⟩ := List.getElem?_eq_some_iff.1 hri
    simp at hlt hrr
    subst hrr
    have hs := hspot (by omega)
    subst hs
    rw [← Addr.add_lit]
    exact hr i (by omega)
end Go.Proofs.Ytomeghngjiaofaa
