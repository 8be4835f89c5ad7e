/-
  What the document's Covers and Overlaps answer: contracts over this translation.
-/
import Derived.Test.YtiimmknnlciljaaDoorSuS
namespace Go.Proofs.YtiimmknnlciljaaDoor
open Go.RowKit Go.Sort Go.Shelf
set_option linter.unusedSectionVars false
variable [Inhabited E] [DecidableEq E]
theorem ge_cmpS (a b : ByteArray) : Op.bytesLess b.toList a.toList = !decide (cmpS a b ≤ 0) := by
  rw [less_cmpS]
  have := cmpS_ord.anti b a
  by_cases h : cmpS a b ≤ 0
  · rw [decide_eq_true h, decide_eq_false (by omega)]; rfl
  · rw [decide_eq_false h, decide_eq_true (by omega)]; rfl
set_option maxRecDepth 100000 in
theorem refCovers_any (cells : Array Value) (f l k : ByteArray) (w : World) (hf : cells[34]? = some (.string f)) (hl : cells[35]? = some (.string l)) : Calls Tryd.prog 45 #[.agg cells, .string k] w fun e w' => e = .returned (.bool (covB f l k)) ∧ Below w.heap.size w w' := by
  have c1 := box_keys w cells 51 34 _ hf
  have c2 := box_keys w cells 51 35 _ hl
  have HU : Hid (∀ x y, decide (cmpS f k ≤ 0) = x → decide (cmpS k l ≤ 0) = y → covB f l k = (x && y)) := fun x y hx hy => by unfold covB; rw [hx, hy]
  obtain ⟨B, HB⟩ : ∃ x, Hid (covB f l k = x) := ⟨_, rfl⟩
  rw [HB.out]
  have es := ge_cmpS f k
  clear hf hl
  go_enter Tryd.func45, Tryd.ntmps45
  cases a3 : decide (cmpS f k ≤ 0) <;> rcases le_cases k l with ⟨b1, b3⟩ | ⟨b1, b2, b3⟩ | ⟨b1, b2, b3⟩ <;>
    (have A3 : Hid _ := HU.out _ _ a3 b3
     rw [a3] at es
     simp only [Bool.not_true, Bool.not_false] at es
     clear a3 b3 HU
     go_wp2
     go_ret
     exact ⟨by rw [← HB.out, A3.out]; rfl, bel_alloc _ _⟩)
set_option maxRecDepth 100000 in
set_option maxHeartbeats 4000000 in
theorem refOverlaps_any (cells : Array Value) (f l lo hi : ByteArray) (w : World) (hf : cells[34]? = some (.string f)) (hl : cells[35]? = some (.string l)) : Calls Tryd.prog 48 #[.agg cells, .string lo, .string hi] w fun e w' => e = .returned (.bool (ovB f l lo hi)) ∧ Below w.heap.size w w' := by
  have c1 := box_keys w cells 51 34 _ hf
  have c2 := box_keys w cells 51 35 _ hl
  obtain ⟨B, HB⟩ : ∃ x, Hid (ovB f l lo hi = x) := ⟨_, rfl⟩
  rw [HB.out]
  have HR : Hid (B = (belB lo hi && decide (cmpS lo l ≤ 0) && belB f hi)) := by show _ = _; rw [← HB.out]; rfl
  have e2 := eq_nil hi
  have e3 := less_cmpS lo hi
  have e4 := less_cmpS f hi
  have es := ge_cmpS lo l
  clear hf hl HB
  by_cases h1 : hi = ByteArray.empty
  · have q1 : belB lo hi = true := by unfold belB; rw [decide_eq_true h1]; rfl
    have q2 : belB f hi = true := by unfold belB; rw [decide_eq_true h1]; rfl
    rw [q1, q2] at HR
    rw [decide_eq_true h1] at e2
    have H1 : Hid _ := h1
    clear h1 q1 q2 e3 e4
    cases a3 : decide (cmpS lo l ≤ 0) <;>
      (rw [a3] at es HR
       simp only [Bool.not_true, Bool.not_false] at es
       clear a3
       go_enter Tryd.func48, Tryd.ntmps48
       go_wp2
       go_ret
       exact ⟨by rw [HR.out]; rfl, bel_alloc _ _⟩)
  · have q1 : belB lo hi = decide (cmpS lo hi < 0) := by unfold belB; rw [decide_eq_false h1]; rfl
    have q2 : belB f hi = decide (cmpS f hi < 0) := by unfold belB; rw [decide_eq_false h1]; rfl
    rw [q1, q2, ← e4] at HR
    rw [decide_eq_false h1] at e2
    have H1 : Hid _ := h1
    have HAN : Hid (cmpS lo hi < 0 ↔ 0 < cmpS hi lo) := cmpS_ord.anti lo hi
    clear h1 q1 q2 e3 e4
    rcases le_cases hi lo with ⟨d1, d3⟩ | ⟨d1, d2, d3⟩ | ⟨d1, d2, d3⟩
    · rw [decide_eq_false (fun h => absurd (of_decide_eq_true d3) (by have := HAN.out.1 h; omega))] at HR
      clear d3
      go_enter Tryd.func48, Tryd.ntmps48
      go_wp2
      go_ret
      exact ⟨by rw [HR.out]; rfl, bel_alloc _ _⟩
    · rw [decide_eq_false (fun h => absurd (of_decide_eq_true d3) (by have := HAN.out.1 h; omega))] at HR
      clear d3
      go_enter Tryd.func48, Tryd.ntmps48
      go_wp2
      go_ret
      exact ⟨by rw [HR.out]; rfl, bel_alloc _ _⟩
    · rw [decide_eq_true (HAN.out.2 (by have := of_decide_eq_false d3; omega))] at HR
      clear d3
      cases b2 : Op.bytesLess f.toList hi.toList <;> cases a3 : decide (cmpS lo l ≤ 0) <;>
        (rw [a3] at es HR
         rw [b2] at HR
         simp only [Bool.not_true, Bool.not_false] at es
         clear a3
         go_enter Tryd.func48, Tryd.ntmps48
         go_wp2
         go_ret
         exact ⟨by rw [HR.out]; rfl, bel_alloc _ _⟩)
end Go.Proofs.YtiimmknnlciljaaDoor
