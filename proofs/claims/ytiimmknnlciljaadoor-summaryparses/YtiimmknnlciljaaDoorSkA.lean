/-
  What seek.below, seek.Covers and seek.Overlaps answer: contracts over this translation.
-/
import Derived.Test.YtiimmknnlciljaaDoorFoldMath
namespace Go.Proofs.YtiimmknnlciljaaDoor
open Go.RowKit Go.Sort Go.Shelf
set_option linter.unusedSectionVars false
variable [Inhabited E] [DecidableEq E]
def belB (k hi : ByteArray) : Bool := decide (hi = ByteArray.empty) || decide (cmpS k hi < 0)
def covB (f l k : ByteArray) : Bool := decide (cmpS f k ≤ 0) && decide (cmpS k l ≤ 0)
def ovB (f l lo hi : ByteArray) : Bool := belB lo hi && decide (cmpS lo l ≤ 0) && belB f hi
theorem eq_nil (hi : ByteArray) : (hi.toList == []) = decide (hi = ByteArray.empty) := by
  have h := eq_cmpS hi ByteArray.empty
  rwa [show ByteArray.empty.toList = [] from by decide +kernel] at h
theorem le_cmpS (a b : ByteArray) : (Op.bytesLess a.toList b.toList || (a.toList == b.toList)) = decide (cmpS a b ≤ 0) := by
  rw [less_cmpS, eq_cmpS]
  by_cases h : a = b
  · subst h; have := cmpS_ord.self a; simp [this]
  · have h2 : cmpS a b ≠ 0 := fun h3 => h (cmpS_eq.1 h3)
    rw [decide_eq_false h, Bool.or_false]
    exact decide_eq_decide.2 ⟨fun x => by omega, fun x => by omega⟩
theorem le_cases (a b : ByteArray) : (Op.bytesLess a.toList b.toList = true ∧ decide (cmpS a b ≤ 0) = true) ∨ (Op.bytesLess a.toList b.toList = false ∧ (a.toList == b.toList) = true ∧ decide (cmpS a b ≤ 0) = true) ∨ (Op.bytesLess a.toList b.toList = false ∧ (a.toList == b.toList) = false ∧ decide (cmpS a b ≤ 0) = false) := by
  have h := le_cmpS a b
  cases h1 : Op.bytesLess a.toList b.toList <;> cases h2 : (a.toList == b.toList) <;> rw [h1, h2] at h <;> simp_all
set_option maxRecDepth 100000 in
theorem below_any (k hi : ByteArray) (w : World) : Calls Tryd.prog 59 #[.string k, .string hi] w fun e w' => e = .returned (.bool (belB k hi)) ∧ Below w.heap.size w w' := by
  have e1 := less_cmpS k hi
  have e2 := eq_nil hi
  obtain ⟨B, HB⟩ : ∃ x, Hid (belB k hi = x) := ⟨_, rfl⟩
  rw [HB.out]
  go_enter Tryd.func59, Tryd.ntmps59
  by_cases h1 : hi = ByteArray.empty
  · have e2' : (hi.toList == []) = true := by rw [e2]; exact decide_eq_true h1
    have H1 : Hid _ := h1
    clear e1 e2 h1
    go_wp2
    go_ret
    exact ⟨by rw [← HB.out]; unfold belB; rw [decide_eq_true H1.out]; rfl, Below.refl _ _⟩
  · have e2' : (hi.toList == []) = false := by rw [e2]; exact decide_eq_false h1
    have H1 : Hid _ := h1
    clear e2 h1
    by_cases h2 : cmpS k hi < 0
    · have e1' : Op.bytesLess k.toList hi.toList = true := by rw [e1]; exact decide_eq_true h2
      have H2 : Hid _ := h2
      clear e1 h2
      go_wp2
      go_ret
      exact ⟨by rw [← HB.out]; unfold belB; rw [decide_eq_false H1.out, decide_eq_true H2.out]; rfl, Below.refl _ _⟩
    · have e1' : Op.bytesLess k.toList hi.toList = false := by rw [e1]; exact decide_eq_false h2
      have H2 : Hid _ := h2
      clear e1 h2
      go_wp2
      go_ret
      exact ⟨by rw [← HB.out]; unfold belB; rw [decide_eq_false H1.out, decide_eq_false H2.out]; rfl, Below.refl _ _⟩
theorem cell_kept {B : Nat} {w w' : World} (h : Below B w w') {g i : Nat} {v : Value} (hg : g < B) (hc : w.cell? ⟨g, i, none⟩ = some v) : w'.cell? ⟨g, i, none⟩ = some v := by
  simp only [World.cell?] at hc ⊢
  rw [h.block g hg]; exact hc
/-- A table's two keys, read where it lies. -/
theorem box_keys (w : World) (cells : Array Value) (t : TypeId) (i : Nat) (v : Value) (h : cells[i]? = some v) : (w.alloc (.cells cells t)).cell? ⟨w.heap.size, i, none⟩ = some v := by
  rw [cell_of_row _ _ _ _ _ _ (show (w.alloc (Obj.cells cells t)).heap[w.heap.size]? = some (Obj.cells cells t (0, 0)) by rw [heap_alloc_get, if_pos rfl])]
  exact h
set_option maxRecDepth 100000 in
theorem covers_any (cells : Array Value) (f l k : ByteArray) (w : World) (hf : cells[34]? = some (.string f)) (hl : cells[35]? = some (.string l)) : Calls Tryd.prog 29 #[.agg cells, .string k] w fun e w' => e = .returned (.bool (covB f l k)) ∧ Below w.heap.size w w' := by
  have c1 := box_keys w cells 51 34 _ hf
  have c2 := box_keys w cells 51 35 _ hl
  have HU : Hid (∀ x y, decide (cmpS f k ≤ 0) = x → decide (cmpS k l ≤ 0) = y → covB f l k = (x && y)) := fun x y hx hy => by unfold covB; rw [hx, hy]
  obtain ⟨B, HB⟩ : ∃ x, Hid (covB f l k = x) := ⟨_, rfl⟩
  rw [HB.out]
  clear hf hl
  go_enter Tryd.func29, Tryd.ntmps29
  rcases le_cases f k with ⟨a1, a3⟩ | ⟨a1, a2, a3⟩ | ⟨a1, a2, a3⟩ <;> rcases le_cases k l with ⟨b1, b3⟩ | ⟨b1, b2, b3⟩ | ⟨b1, b2, b3⟩ <;>
    (have A3 : Hid _ := HU.out _ _ a3 b3
     clear a3 b3 HU
     go_wp2
     go_ret
     exact ⟨by rw [← HB.out, A3.out]; rfl, bel_alloc _ _⟩)
set_option maxRecDepth 100000 in
set_option maxHeartbeats 2000000 in
theorem overlaps_any (cells : Array Value) (f l lo hi : ByteArray) (w : World) (hf : cells[34]? = some (.string f)) (hl : cells[35]? = some (.string l)) : Calls Tryd.prog 47 #[.agg cells, .string lo, .string hi] w fun e w' => e = .returned (.bool (ovB f l lo hi)) ∧ Below w.heap.size w w' := by
  have c1 := box_keys w cells 51 34 _ hf
  have c2 := box_keys w cells 51 35 _ hl
  obtain ⟨B, HB⟩ : ∃ x, Hid (ovB f l lo hi = x) := ⟨_, rfl⟩
  rw [HB.out]
  clear hf hl
  go_enter Tryd.func47, Tryd.ntmps47
  obtain ⟨x, HX⟩ : ∃ x, Hid (belB lo hi = x) := ⟨_, rfl⟩
  obtain ⟨y, HY⟩ : ∃ x, Hid (belB f hi = x) := ⟨_, rfl⟩
  have k1 : Aside (∀ w, Calls Tryd.prog 59 #[.string lo, .string hi] w fun e w' => e = .returned (.bool x) ∧ Below w.heap.size w w') := fun w => by rw [← HX.out]; exact below_any lo hi w
  have k2 : Aside (∀ w, Calls Tryd.prog 59 #[.string f, .string hi] w fun e w' => e = .returned (.bool y) ∧ Below w.heap.size w w') := fun w => by rw [← HY.out]; exact below_any f hi w
  have HR : Hid (B = (x && decide (cmpS lo l ≤ 0) && y)) := by show _ = _; rw [← HB.out, ← HX.out, ← HY.out]; rfl
  clear HX HY HB
  go_wp2_with fail
  refine (k1.out _).mono ?_
  rintro e w1 ⟨rfl, hb1⟩
  have d1 := cell_kept hb1 (by simp) c1
  have d2 := cell_kept hb1 (by simp) c2
  have HB1 : Hid (Below w.heap.size w w1) := (bel_alloc w _).trans (hb1.mono (by simp))
  clear c1 c2 hb1 k1
  cases x with
  | false =>
    go_wp2
    go_ret
    exact ⟨by rw [HR.out]; rfl, HB1.out⟩
  | true =>
    have HF : Hid (decide (cmpS lo l ≤ 0) = false → B = false) := fun h => by rw [HR.out, h]; rfl
    have HT : Hid (decide (cmpS lo l ≤ 0) = true → B = y) := fun h => by rw [HR.out, h]; rfl
    clear HR
    rcases le_cases lo l with ⟨a1, a3⟩ | ⟨a1, a2, a3⟩ | ⟨a1, a2, a3⟩
    · have A3 : Hid _ := HT.out a3
      clear a3 HT HF
      go_wp2_with fail
      refine (k2.out _).mono ?_
      rintro e w2 ⟨rfl, hb2⟩
      have HB2 : Hid (Below w.heap.size w w2) := HB1.out.trans (hb2.mono HB1.out.size)
      clear hb2 d1 d2
      go_wp2
      go_ret
      exact ⟨by rw [A3.out]; rfl, HB2.out⟩
    · have A3 : Hid _ := HT.out a3
      clear a3 HT HF
      go_wp2_with fail
      refine (k2.out _).mono ?_
      rintro e w2 ⟨rfl, hb2⟩
      have HB2 : Hid (Below w.heap.size w w2) := HB1.out.trans (hb2.mono HB1.out.size)
      clear hb2 d1 d2
      go_wp2
      go_ret
      exact ⟨by rw [A3.out]; rfl, HB2.out⟩
    · have A3 : Hid _ := HF.out a3
      clear a3 HT HF
      go_wp2
      go_ret
      exact ⟨by rw [A3.out]; rfl, HB1.out⟩
end Go.Proofs.YtiimmknnlciljaaDoor
