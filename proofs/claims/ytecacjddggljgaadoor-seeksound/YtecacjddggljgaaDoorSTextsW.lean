/-
  What marlstoneref05.Texts and marlstonelaw05.still answer: contracts over this translation.
-/
import Derived.Test.YtecacjddggljgaaDoorSRefA
import Derived.Test.YtecacjddggljgaaDoorPartBJ
namespace Go.Proofs.YtecacjddggljgaaDoor.Sm
open Go.RowKit
theorem info9 : (Tryd.prog.info? 9).map (fun i => (i.zero, i.size, i.bytes)) = some (some (.string ⟨#[]⟩), 1, 16) := by kernel_rfl
/-- The texts of leaves. -/
def strs (ls : List LV) : List ByteArray := ls.map fun p => ⟨p.bs.toArray⟩
def strC (ss : List ByteArray) : List Value := ss.map .string
/-- A row of texts. -/
def StrV (w : World) (ao : Option Addr) (n c : Nat) (ss : List ByteArray) : Prop := ss.length = n ∧ n ≤ c ∧ c ≤ 9223372036854775807 ∧ (0 < n → ∃ b off, ao = some ⟨b, off, none⟩ ∧ ∀ i s, ss[i]? = some s → w.cell? ⟨b, off + i, none⟩ = some (.string s))
theorem StrV.below {w w' : World} {B n c : Nat} {ao : Option Addr} {ss : List ByteArray} (h : StrV w ao n c ss) (hb : Below B w w') (hB : w.heap.size ≤ B) : StrV w' ao n c ss :=
  ⟨h.1, h.2.1, h.2.2.1, fun hp => by obtain ⟨b, off, h1, h2⟩ := h.2.2.2 hp; exact ⟨b, off, h1, fun i s hs => bel_cell2 hb hB (h2 i s hs)⟩⟩
theorem StrV.take {w : World} {b off n c : Nat} {ss : List ByteArray} (h : StrV w (some ⟨b, off, none⟩) n c ss) (k : Nat) (hk : k ≤ n) : StrV w (some ⟨b, off, none⟩) k c (ss.take k) := by
  refine ⟨by rw [List.length_take, h.1]; omega, Nat.le_trans hk h.2.1, h.2.2.1, fun hp => ⟨b, off, rfl, ?_⟩⟩
  obtain ⟨b', off', h1, h2⟩ := h.2.2.2 (by omega)
  cases h1
  intro i s hs
  rw [List.getElem?_take] at hs
  split at hs
  · exact h2 i s hs
  · cases hs
theorem StrV.drop {w : World} {b off n c : Nat} {ss : List ByteArray} (h : StrV w (some ⟨b, off, none⟩) n c ss) (k : Nat) (hk : k < n) : StrV w (some ⟨b, off + k, none⟩) (n - k) (c - k) (ss.drop k) := by
  refine ⟨by rw [List.length_drop, h.1], by have := h.2.1; omega, by have := h.2.2.1; omega, fun hp => ⟨b, off + k, rfl, ?_⟩⟩
  obtain ⟨b', off', h1, h2⟩ := h.2.2.2 (by omega)
  cases h1
  intro i s hs
  rw [List.getElem?_drop] at hs
  rw [show off + k + i = off + (k + i) by omega]
  exact h2 _ s hs
theorem str_of_own {w : World} {base : Nat} {v : Value} {ss : List ByteArray} (h : w.ownsRow base 9 1 v ss.length (strC ss)) : ∃ ao c, v = .slice ao ss.length c ∧ StrV w ao ss.length c ss := by
  obtain ⟨hl, ⟨rfl, h0⟩ | ⟨g, cap, cur, rfl, hg, hh, hc, hm, hs, ht⟩⟩ := h
  · exact ⟨none, 0, by rw [h0], rfl, by omega, by omega, fun h => by omega⟩
  · refine ⟨some ⟨g, 0, none⟩, cap, rfl, rfl, hc, by unfold maxLen at hm; omega, fun _ => ⟨g, 0, rfl, fun i p hi => ?_⟩⟩
    rw [Nat.zero_add, cell_of_row w g i _ _ _ hh]
    have e : (cur.toList.take (ss.length * 1))[i]? = some (Value.string p) := by rw [ht, strC, List.getElem?_map, hi]; rfl
    rw [List.getElem?_take] at e
    split at e
    · simpa using e
    · cases e
theorem strs_len (ls : List LV) : (strs ls).length = ls.length := by unfold strs; simp
theorem strs_at {ls : List LV} {i : Nat} {p : LV} (h : ls[i]? = some p) : (strs ls)[i]? = some ⟨p.bs.toArray⟩ := by unfold strs; rw [List.getElem?_map, h]; rfl
end Go.Proofs.YtecacjddggljgaaDoor.Sm
