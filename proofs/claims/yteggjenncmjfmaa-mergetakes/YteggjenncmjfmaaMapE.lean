/-
  What entry.Map answers: contracts over this translation.
-/
import Derived.Test.YteggjenncmjfmaaFoldsL
import Derived.Lib.SliceRun
import Derived.Lib.LazyBuf
namespace Go.Proofs.Yteggjenncmjfmaa
open Go.RowKit Go.Sort Go.Shelf
set_option linter.unusedSectionVars false
variable [Inhabited E] [DecidableEq E]
/-- The place of the first that is taken away: all, where there is none. -/
def firstDel (es : List E) : Nat := es.findIdx fun e => e.del
theorem firstDel_at {es : List E} {i : Nat} (hi : i < es.length) (h : es[i]!.del = true) (hb : ∀ j, j < i → es[j]!.del = false) : firstDel es = i := by
  unfold firstDel
  rw [List.findIdx_eq hi]
  refine ⟨by rw [getElem!_pos es i hi] at h; exact h, fun j hj => ?_⟩
  have := hb j hj
  rw [getElem!_pos es j (by omega)] at this
  exact this
theorem firstDel_none {es : List E} (hb : ∀ j, j < es.length → es[j]!.del = false) : firstDel es = es.length := by
  unfold firstDel
  rw [List.findIdx_eq_length]
  intro x hx
  obtain ⟨i, hi, rfl⟩ := List.getElem_of_mem hx
  have := hb i hi
  rwa [getElem!_pos es i hi] at this
theorem flatE_set : ∀ (L : List E) (i : Nat) (k v : ByteArray) (d : Bool) (q : Int), i < L.length → ((((flatE L).set (i * 4) (.string k)).set (i * 4 + 1) (.string v)).set (i * 4 + 2) (.bool d)).set (i * 4 + 3) (.int .i64 q) = flatE (L.set i ⟨k, v, d, q⟩)
  | [], i, _, _, _, _, h => absurd h (by simp)
  | e :: L, 0, k, v, d, q, _ => by
    rw [flatE_cons, List.set_cons_zero, flatE_cons]; rfl
  | e :: L, i + 1, k, v, d, q, h => by
    rw [flatE_cons, List.set_cons_succ, flatE_cons, ← flatE_set L i k v d q (by simpa using h)]
    have h4 : (encE e).length = 4 := rfl
    rw [List.set_append_right _ _ (by rw [h4]; omega), List.set_append_right _ _ (by rw [h4]; omega), List.set_append_right _ _ (by rw [h4]; omega), List.set_append_right _ _ (by rw [h4]; omega), h4]
    rw [show (i + 1) * 4 - 4 = i * 4 by omega, show (i + 1) * 4 + 1 - 4 = i * 4 + 1 by omega, show (i + 1) * 4 + 2 - 4 = i * 4 + 2 by omega, show (i + 1) * 4 + 3 - 4 = i * 4 + 3 by omega]
/-- An entry that is stored into an owned row. -/
theorem own_set {w : World} {base g n cap : Nat} {L : List E} (h : w.ownsRow base 29 4 (.slice (some ⟨g, 0, none⟩) n cap) n (flatE L)) (i : Nat) (hi : i < n) (k v : ByteArray) (d : Bool) (q : Int) :
    ((((w.setCell ⟨g, i * 4, none⟩ (.string k)).setCell ⟨g, i * 4 + 1, none⟩ (.string v)).setCell ⟨g, i * 4 + 2, none⟩ (.bool d)).setCell ⟨g, i * 4 + 3, none⟩ (.int .i64 q)).ownsRow base 29 4 (.slice (some ⟨g, 0, none⟩) n cap) n (flatE (L.set i ⟨k, v, d, q⟩)) := by
  have hl : i < L.length := by have := h.1; rw [flatE_len] at this; omega
  rw [← flatE_set L i k v d q hl]
  exact ((((h.stored _ _).1.stored _ _).1).stored _ _).1.stored _ _ |>.1
end Go.Proofs.Yteggjenncmjfmaa
