/-
  What shown answers: a contract over this translation.
-/
import Derived.Test.YteemfhhhdhddhaaBytes
namespace Go.Proofs.Yteemfhhhdhddhaa
open Go.RowKit Go.Sort Go.Shelf
set_option linter.unusedSectionVars false
variable [Inhabited E]
def eB1 : E := ⟨⟨#[98]⟩, ⟨#[]⟩, false, 1⟩
def eA2 : E := ⟨⟨#[97]⟩, ⟨#[]⟩, false, 2⟩
def eB3 : E := ⟨⟨#[98]⟩, ⟨#[]⟩, false, 3⟩
theorem fold_three : foldS [eB1, eA2, eB3] = [eA2, eB3] := by
  have h1 : ¬ cmpS eB1.key eA2.key < 0 := by decide
  have h2 : cmpS eA2.key eB3.key < 0 := by decide
  have h3 : ¬ cmpS eB1.key eB3.key < 0 := by decide
  have h4 : ¬ eB1.key = eA2.key := by decide
  have h5 : eB1.key = eB3.key := by decide
  have h6 : eB1.seq ≤ eB3.seq := by decide
  show insS (insS (insS [] eB1) eA2) eB3 = _
  rw [insS, insS, if_neg h1, if_neg h4, insS, if_pos h2, insS, if_neg h3, if_pos h5, if_pos h6]
theorem bytes_shown : bytesB ⟨⟨#[97]⟩, ⟨#[118]⟩, false, 1⟩ = [0, 1, 1, 97, 1, 118] := by
  have h : rightB ⟨⟨#[97]⟩, ⟨#[118]⟩, false, 1⟩ = true := by decide
  rw [bytesB, h]
  rfl
theorem own_shapeE {w : World} {base : Nat} {v : Value} {n : Nat} {es : List E} (h : w.ownsRow base 23 4 v n (flatE es)) (hn : 0 < n) : ∃ g c, v = .slice (some ⟨g, 0, none⟩) n c ∧ Ents w g 0 es ∧ base ≤ g := by
  have h' := h
  rcases h.2 with ⟨_, h0⟩ | ⟨g, cap, cur, rfl, hb, _⟩
  · omega
  · exact ⟨g, cap, rfl, own_ents h', hb⟩
theorem ents_three (w : World) : Ents (w.alloc (Obj.cells (flatE [eB1, eA2, eB3]).toArray 23)) w.heap.size 0 [eB1, eA2, eB3] := fun j u hu => by
  have hb : (w.alloc (Obj.cells (flatE [eB1, eA2, eB3]).toArray 23)).heap[w.heap.size]? = some (Obj.cells (flatE [eB1, eA2, eB3]).toArray 23) := by rw [heap_alloc_get, if_pos rfl]
  rw [Nat.zero_add, cell_of_row _ _ _ _ _ _ hb]
  simpa using hu
set_option maxRecDepth 100000 in
set_option maxHeartbeats 4000000 in
theorem shown_any (w : World) : Calls Try.prog 18 #[] w fun e w' => e = .returned (.bool true) ∧ Below w.heap.size w w' := by
  have CB := fun w => bytes_any ⟨#[97]⟩ ⟨#[118]⟩ false 1 w (by decide) (by decide)
  rw [bytes_shown] at CB
  have HCB : Hid _ := CB
  have CF := fun w b hE => fold_any (some ⟨b, 0, none⟩) 3 3 [eB1, eA2, eB3] w ⟨rfl, fun _ => ⟨b, 0, rfl, hE⟩⟩ (by decide)
  rw [fold_three] at CF
  have HCF : Hid _ := CF
  have CR := fun w => right_any ⟨#[97]⟩ ⟨#[]⟩ false 1 w (by decide) (by decide)
  rw [show rightB ⟨⟨#[97]⟩, ⟨#[]⟩, false, 1⟩ = true by decide] at CR
  have HCR : Hid _ := CR
  clear CB CF CR
  go_enter Try.func18, Try.ntmps18
  go_wp2_with fail
  refine (HCB.out _).mono ?_
  rintro e w1 ⟨v1, rfl, hown1, hbel1⟩
  obtain ⟨g1, c1, rfl, _, _, _, _⟩ := own_shape hown1 (by decide)
  have hb1 := own_row_bytes hown1
  clear hown1
  go_wp2_with fail
  refine (HCF.out _ _ (ents_three w1)).mono ?_
  rintro e w2 ⟨v2, rfl, hown2, hbel2⟩
  obtain ⟨g2, c2, rfl, hE2, _⟩ := own_shapeE hown2 (by decide)
  have hB2 : Below w1.heap.size w1 w2 := (bel_alloc w1 _).trans (hbel2.mono (by simp))
  have hb2 := bytes_kept hb1 hB2 (Nat.le_refl _)
  have hcv : (convert 24 9 (.slice (some ⟨g1, 0, none⟩) 6 c1)).run Try.prog w2 = .ok (.string ⟨#[0, 1, 1, 97, 1, 118]⟩) w2 := str_bytes c1 hb2
  have q1 := ents_cell hE2 0 3 (by decide) (by decide)
  have q2 := ents_cell hE2 1 3 (by decide) (by decide)
  simp [encE, eA2, eB3] at q1 q2
  have HB : Hid _ := hbel1.trans (hB2.mono hbel1.size)
  clear hE2 hown2 hbel2 hB2 hb1 hb2 hbel1
  go_wp2_with (go_at_call 22; refine (HCR.out _).mono ?_; rintro e w3 ⟨rfl, hbel3⟩)
  have HZ : Hid _ := HB.out.trans (hbel3.mono HB.out.size)
  clear hbel3 hcv q1 q2
  go_ret
  exact ⟨rfl, HZ.out⟩
end Go.Proofs.Yteemfhhhdhddhaa
