/-
  What slices.DeleteFunc and entry.Map answer: contracts over this translation.
-/
import Derived.Test.YteggjenncmjfmaaMapE
namespace Go.Proofs.Yteggjenncmjfmaa
open Go.RowKit Go.Sort Go.Shelf
set_option linter.unusedSectionVars false
variable [Inhabited E] [DecidableEq E]
/-- What is not taken away. -/
def filt (es : List E) : List E := es.filter fun e => !e.del
theorem filt_len (es : List E) : (filt es).length ≤ es.length := List.length_filter_le _ _
theorem filt_snoc (es : List E) (j : Nat) (hj : j < es.length) (x : E) (hx : es[j]! = x) : filt (es.take (j + 1)) = filt (es.take j) ++ (if x.del then [] else [x]) := by
  unfold filt
  rw [List.take_add_one, List.filter_append, List.getElem?_eq_getElem hj]
  rw [getElem!_pos es j hj] at hx
  rw [hx]
  cases hd : x.del <;> simp [hd]
theorem filt_all {es : List E} (h : ∀ j, j < es.length → es[j]!.del = false) : filt es = es := by
  unfold filt
  rw [List.filter_eq_self]
  intro x hx
  obtain ⟨i, hi, rfl⟩ := List.getElem_of_mem hx
  have := h i hi
  rw [getElem!_pos es i hi] at this
  simp [this]
theorem firstDel_before {es : List E} {j : Nat} (h : j < firstDel es) : j < es.length ∧ es[j]!.del = false := by
  unfold firstDel at h
  have hl : j < es.length := Nat.lt_of_lt_of_le h List.findIdx_le_length
  refine ⟨hl, ?_⟩
  have := List.not_of_lt_findIdx h
  rw [getElem!_pos es j hl]
  simpa using this
theorem firstDel_is {es : List E} (h : firstDel es < es.length) : es[firstDel es]!.del = true := by
  rw [getElem!_pos es _ h]
  exact List.findIdx_getElem (w := h)
theorem filt_first (es : List E) : filt (es.take (firstDel es)) = es.take (firstDel es) := by
  refine filt_all fun j hj => ?_
  rw [List.length_take] at hj
  obtain ⟨h1, h2⟩ := firstDel_before (es := es) (j := j) (by omega)
  rw [getElem!_pos _ j (by rw [List.length_take]; omega), List.getElem_take]
  rwa [getElem!_pos es j h1] at h2
theorem row_at (F es : List E) (j : Nat) (hF : F.length ≤ j) (hj : j < es.length) : (F ++ es.drop F.length)[j]! = es[j]! := by
  rw [getElem!_pos (F ++ es.drop F.length) j (by rw [List.length_append, List.length_drop]; omega), getElem!_pos es j hj, List.getElem_append_right hF, List.getElem_drop]
  congr 1
  omega
theorem row_set (F es : List E) (x : E) (hF : F.length < es.length) : (F ++ es.drop F.length).set F.length x = (F ++ [x]) ++ es.drop (F ++ [x]).length := by
  rw [List.set_append_right _ _ (Nat.le_refl _), Nat.sub_self, List.drop_eq_getElem_cons hF, List.set_cons_zero, List.length_append, List.length_singleton, List.append_assoc]
  rfl
def zeros (n : Nat) : List Value := (Builtin.zeroCells #[.string ⟨#[]⟩, .string ⟨#[]⟩, .bool false, .int .i64 0] n).toList
theorem zeros_len (n : Nat) : (zeros n).length = n * 4 := by simp [zeros, Builtin.zeroCells]
theorem zeros_one (n : Nat) : ∀ v ∈ zeros n, v.oneCell' = true := by
  intro v hv
  simp only [zeros, Builtin.zeroCells, Array.toList_map, List.mem_map] at hv
  obtain ⟨i, _, rfl⟩ := hv
  have h : i % 4 = 0 ∨ i % 4 = 1 ∨ i % 4 = 2 ∨ i % 4 = 3 := by omega
  show (#[Value.string ⟨#[]⟩, .string ⟨#[]⟩, .bool false, .int .i64 0][i % 4]!).oneCell' = true
  rcases h with h | h | h | h <;> (rw [h]; rfl)
theorem run_clear_ents (w : World) (ty : TypeId) (b o n c : Nat) (hn : 0 < n)
    (hc : ∀ j, j < n * 4 → (w.cell? ⟨b, o + j, none⟩).isSome = true) (hf : ∀ j, j < n * 4 → w.frozen? ⟨b, o + j, none⟩ = false) :
    (Builtin.clear_ #[25] ty #[.slice (some ⟨b, o, none⟩) n c]).run Try.prog w = .ok (.tuple #[]) (w.setCells b o (zeros n)) := by
  have hst := run_storeCells_cells (P := Try.prog) b o (zeros n) 0 w (by rw [zeros_len]; simpa using hc) (by rw [zeros_len]; simpa using hf) (zeros_one n)
  simp only [Nat.add_zero] at hst
  obtain ⟨m, rfl⟩ : ∃ m, n = m + 1 := ⟨n - 1, by omega⟩
  have hz : ∀ (w : World) (a : Addr), (storeCells a (Builtin.zeroCells (Value.agg #[.string ⟨#[]⟩, .string ⟨#[]⟩, .bool false, .int .i64 0]).cells (m + 1)).toList).run Try.prog w = (storeCells a (zeros (m + 1))).run Try.prog w := fun _ _ => rfl
  simp [Builtin.clear_, run_underlying Try.underlying25, hz, hst]
theorem own_cells {w : World} {base g n cap : Nat} {L : List E} (h : w.ownsRow base 29 4 (.slice (some ⟨g, 0, none⟩) n cap) n (flatE L)) :
    Ents w g 0 L ∧ base ≤ g ∧ g < w.heap.size ∧ n ≤ cap ∧ cap ≤ maxLen ∧ L.length = n ∧ (∀ j, w.frozen? ⟨g, j, none⟩ = false) := by
  have hl : L.length = n := by have := h.1; rw [flatE_len] at this; omega
  refine ⟨?_, ?_, ?_, ?_, ?_, hl, fun j => h.frozenAt j⟩
  · intro j u hu
    have := h.cells (g := g) rfl j u hu
    rw [Addr.add_lit] at this
    rwa [Nat.zero_add] at this ⊢
  all_goals
    rcases h.2 with ⟨h', _⟩ | ⟨g', cap', cur, h', hb, hg, hnc, hcm, hcs, htake⟩
    · simp at h'
    · simp only [Value.slice.injEq, Option.some.injEq, Addr.mk.injEq, and_true, true_and] at h'
      obtain ⟨rfl, rfl⟩ := h'
      first | exact hb | exact (Array.getElem?_eq_some_iff.1 hg).1 | exact hnc | exact hcm
end Go.Proofs.Yteggjenncmjfmaa
