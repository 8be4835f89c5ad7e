/-
  Stable sorts and what entries come to: plain mathematics, no program.
-/
import Derived.Test.YteggjenncmjfmaaByKey
namespace Go.Proofs.Yteggjenncmjfmaa
set_option linter.unusedSectionVars false
variable [Inhabited E]
/-- A total preorder by a comparison. -/
structure Ord3 {α : Type} (cf : α → α → Int) : Prop where
  anti : ∀ a b, cf a b < 0 ↔ 0 < cf b a
  trans : ∀ a b c, cf a b ≤ 0 → cf b c ≤ 0 → cf a c ≤ 0
section
variable {α : Type} {cf : α → α → Int}
theorem Ord3.self (h : Ord3 cf) (a : α) : cf a a = 0 := by have := h.anti a a; omega
theorem Ord3.zero (h : Ord3 cf) (a b : α) : cf a b = 0 ↔ cf b a = 0 := by
  have h1 := h.anti a b; have h2 := h.anti b a
  constructor <;> intro h0 <;> omega
theorem Ord3.ltle (h : Ord3 cf) {a b c : α} (h1 : cf a b < 0) (h2 : cf b c ≤ 0) : cf a c < 0 := by
  have h3 := h.trans a b c (by omega) h2
  have h4 := h.anti a c; have h5 := h.anti c a; have h6 := h.anti a b; have h7 := h.anti b a
  have h8 := h.trans b c a h2
  omega
theorem Ord3.lelt (h : Ord3 cf) {a b c : α} (h1 : cf a b ≤ 0) (h2 : cf b c < 0) : cf a c < 0 := by
  have h3 := h.trans a b c h1 (by omega)
  have h4 := h.anti a c; have h5 := h.anti c a; have h6 := h.anti b c; have h7 := h.anti c b
  have h8 := h.trans c a b
  omega
/-- Of a's class. -/
def cls (cf : α → α → Int) (c x : α) : Bool := cf c x == 0
/-- S is l, sorted, and stably so. -/
structure Stab (cf : α → α → Int) (l S : List α) : Prop where
  srt : S.Pairwise fun a b => cf a b ≤ 0
  keep : ∀ c, S.filter (cls cf c) = l.filter (cls cf c)
  perm : S.Perm l
def Up (cf : α → α → Int) (l : List α) : Prop := l.Pairwise fun a b => cf a b ≤ 0
theorem cls_swap (h : Ord3 cf) (Y X : List α) (hlt : ∀ y ∈ Y, ∀ x ∈ X, cf y x < 0) (c : α) : (Y ++ X).filter (cls cf c) = (X ++ Y).filter (cls cf c) := by
  rw [List.filter_append, List.filter_append]
  by_cases hY : Y.filter (cls cf c) = []
  · rw [hY, List.nil_append, List.append_nil]
  · have hX : X.filter (cls cf c) = [] := by
      obtain ⟨y, hy⟩ := List.exists_mem_of_ne_nil _ hY
      rw [List.mem_filter] at hy
      rw [List.filter_eq_nil_iff]
      intro x hx hcx
      have h1 := hlt y hy.1 x hx
      have hy2 := hy.2
      simp only [cls, beq_iff_eq] at hy2 hcx
      have h2 := (h.zero c y).1 hy2
      have h3 := h.trans x c y (by have := (h.zero c x).1 hcx; omega) (by omega)
      have h4 := h.anti y x
      have h5 := h.anti x y
      omega
    rw [hX, List.nil_append, List.append_nil]
/-- Two sorted pieces, cut so that the middle ones may change places. -/
theorem stab_cross (h : Ord3 cf) {X1 X2 Y1 Y2 R1 R2 : List α} (hX : Up cf (X1 ++ X2)) (hY : Up cf (Y1 ++ Y2))
    (h12 : ∀ x ∈ X1, ∀ y ∈ Y2, cf x y ≤ 0) (h21 : ∀ y ∈ Y1, ∀ x ∈ X2, cf y x < 0) (s1 : Stab cf (X1 ++ Y1) R1) (s2 : Stab cf (X2 ++ Y2) R2) :
    Stab cf ((X1 ++ X2) ++ (Y1 ++ Y2)) (R1 ++ R2) := by
  have hX' := List.pairwise_append.1 hX
  have hY' := List.pairwise_append.1 hY
  refine ⟨?_, fun c => ?_, ?_⟩
  · rw [List.pairwise_append]
    refine ⟨s1.srt, s2.srt, fun a ha b hb => ?_⟩
    rw [s1.perm.mem_iff, List.mem_append] at ha
    rw [s2.perm.mem_iff, List.mem_append] at hb
    rcases ha with ha | ha <;> rcases hb with hb | hb
    · exact hX'.2.2 a ha b hb
    · exact h12 a ha b hb
    · have := h21 a ha b hb; omega
    · exact hY'.2.2 a ha b hb
  · have hc := cls_swap h Y1 X2 h21 c
    rw [List.filter_append, List.filter_append] at hc
    rw [List.filter_append, s1.keep, s2.keep]
    simp only [List.filter_append, List.append_assoc]
    rw [← List.append_assoc ((Y1).filter _), hc, List.append_assoc]
  · refine (s1.perm.append s2.perm).trans ?_
    have h1 : (Y1 ++ X2).Perm (X2 ++ Y1) := List.perm_append_comm
    have h2 := ((h1.append_right Y2).append_left X1)
    simpa [List.append_assoc] using h2
theorem stab_refl {l : List α} (hl : Up cf l) : Stab cf l l := ⟨hl, fun _ => rfl, .refl _⟩
theorem Stab.trans_app {A B S T R : List α} (hA : Stab cf A S) (hB : Stab cf B T) (hR : Stab cf (S ++ T) R) : Stab cf (A ++ B) R :=
  ⟨hR.srt, fun c => by rw [hR.keep, List.filter_append, hA.keep, hB.keep, List.filter_append], hR.perm.trans (hA.perm.append hB.perm)⟩
end
end Go.Proofs.Yteggjenncmjfmaa
