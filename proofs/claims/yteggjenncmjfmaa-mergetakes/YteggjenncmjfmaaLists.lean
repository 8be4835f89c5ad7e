/-
  What cut, few, Find and Sorted answer: contracts over this translation.
-/
import Derived.Test.YteggjenncmjfmaaFold
import Derived.Lib.MinMax
namespace Go.Proofs.Yteggjenncmjfmaa
open Go.RowKit Go.Sort Go.Shelf
set_option linter.unusedSectionVars false
variable [Inhabited E]
/-- An entry of at most so many bytes. -/
def cutE (a b : Nat) (e : E) : E := ⟨e.key.extract 0 (min e.key.size a), e.value.extract 0 (min e.value.size b), e.del, e.seq⟩
/-- At most so many entries, each cut. -/
def fewS (a b most : Nat) (es : List E) : List E := (es.take most).map (cutE a b)
theorem fewS_len (a b most : Nat) (es : List E) : (fewS a b most es).length = min most es.length := by rw [fewS, List.length_map, List.length_take]
theorem fewS_snoc (a b i : Nat) (es : List E) (h : i < es.length) : fewS a b (i + 1) es = fewS a b i es ++ [cutE a b es[i]!] := by
  unfold fewS
  rw [List.take_succ_eq_append_getElem h, getElem!_pos es i h, List.map_append, List.map_singleton]
theorem fewS_all (a b i : Nat) (es : List E) (h : es.length ≤ i) (j : Nat) (hj : es.length ≤ j) : fewS a b i es = fewS a b j es := by
  unfold fewS
  rw [List.take_of_length_le h, List.take_of_length_le hj]
theorem results_entry1 {fn : Func} {p : Tmp} (h : fn.results = #[.cell p 29]) (tmps : Array Value) (w : World) (g : Nat) (t : TypeId) (cs : Array Value) (fr : Nat × Nat)
    (hp : tmps.getD p undef = .pointer (some ⟨g, 0, none⟩)) (hg : w.heap[g]? = some (.cells cs t fr)) (hi : (Try.prog.info? 29).map (·.size) = some cs.size) :
    (results fn tmps).run Try.prog w = .ok (.agg cs) w := by
  have hp' : tmps[p]?.getD undef = .pointer (some ⟨g, 0, none⟩) := by simpa using hp
  simp [results, h, hp', asAddr, run_loadVar_row w g t 29 cs fr _ hg Try.underlying29 rfl hi]
theorem ents_at {w : World} {b off : Nat} {l : List E} (h : Ents w b off l) (i c : Nat) (hi : i < l.length) (hc : c < 4) : w.cell? ⟨b, off + i * 4 + c, none⟩ = some (encE l[i]!)[c]! := by
  have := h (i * 4 + c) _ ((flatE_at l i c hi hc).trans (encE_get! _ c hc))
  rwa [← Nat.add_assoc] at this
/-- The four cells of an entry. -/
theorem ents_four {w : World} {b off : Nat} {l : List E} (h : Ents w b off l) (i : Nat) (hi : i < l.length) {k v : ByteArray} {d : Bool} {q : Int} (hx : l[i]! = ⟨k, v, d, q⟩) :
    w.cell? ⟨b, off + i * 4, none⟩ = some (.string k) ∧ w.cell? ⟨b, off + i * 4 + 1, none⟩ = some (.string v) ∧ w.cell? ⟨b, off + i * 4 + 2, none⟩ = some (.bool d) ∧ w.cell? ⟨b, off + i * 4 + 3, none⟩ = some (.int .i64 q) := by
  have c0 := ents_at h i 0 hi (by decide)
  have c1 := ents_at h i 1 hi (by decide)
  have c2 := ents_at h i 2 hi (by decide)
  have c3 := ents_at h i 3 hi (by decide)
  rw [hx] at c0 c1 c2 c3
  exact ⟨c0, c1, c2, c3⟩
/-- All texts of entries are no longer than a text may be. -/
def Small (es : List E) : Prop := ∀ e ∈ es, e.key.size ≤ 9223372036854775807 ∧ e.value.size ≤ 9223372036854775807
theorem small_at {es : List E} (h : Small es) (i : Nat) (hi : i < es.length) {k v : ByteArray} {d : Bool} {q : Int} (hx : es[i]! = ⟨k, v, d, q⟩) : k.size ≤ 9223372036854775807 ∧ v.size ≤ 9223372036854775807 := by
  have := h es[i]! (by rw [getElem!_pos es i hi]; exact List.getElem_mem hi)
  rw [hx] at this
  exact this
/-- The cells of one entry, laid by a literal. -/
theorem ent_laid (w5 : World) (k0 v0 : ByteArray) (d0 : Bool) (q0 : Int) : ∀ j u, (encE (E.mk k0 v0 d0 q0))[j]? = some u → (w5.alloc (Obj.cells #[.string k0, .string v0, .bool d0, .int .i64 q0] 29)).cell? ((⟨w5.heap.size, 0, none⟩ : Addr).add j) = some u := by
  intro j u hu
  have hb : (w5.alloc (Obj.cells #[.string k0, .string v0, .bool d0, .int .i64 q0] 29)).heap[w5.heap.size]? = some (Obj.cells #[.string k0, .string v0, .bool d0, .int .i64 q0] 29) := by rw [heap_alloc_get, if_pos rfl]
  rw [Addr.add_lit, Nat.zero_add, cell_of_row _ _ _ _ _ _ hb, ← hu]
  simp [encE]
theorem take_snoc {α : Type} [Inhabited α] (es : List α) (i : Nat) (h : i < es.length) : es.take (i + 1) = es.take i ++ [es[i]!] := by
  rw [List.take_succ_eq_append_getElem h, getElem!_pos es i h]
/-- How many keys are below, and whether it is there. -/
def belowN (key : ByteArray) (es : List E) : Nat := es.countP fun e => decide (cmpS e.key key < 0)
def isIn (key : ByteArray) (es : List E) : Bool := es.any fun e => decide (e.key = key)
theorem belowN_le (key : ByteArray) (es : List E) : belowN key es ≤ es.length := List.countP_le_length
/-- Each key above the one ahead, as a test. -/
def sortedB : List E → Bool
  | a :: b :: r => decide (cmpS a.key b.key < 0) && sortedB (b :: r)
  | _ => true
theorem sortedB_at : ∀ (es : List E), sortedB es = true ↔ ∀ i, i + 1 < es.length → cmpS es[i]!.key es[i + 1]!.key < 0
  | [] => by simp [sortedB]
  | [a] => by simp [sortedB]
  | a :: b :: r => by
    rw [sortedB, Bool.and_eq_true, sortedB_at (b :: r)]
    constructor
    · rintro ⟨h1, h2⟩ i hi
      cases i with
      | zero => simpa using h1
      | succ i => simpa using h2 i (by simpa using hi)
    · intro h
      exact ⟨by simpa using h 0 (by simp), fun i hi => by simpa using h (i + 1) (by simpa using hi)⟩
theorem sortedB_ks : ∀ {es : List E}, sortedB es = true ↔ Ks es
  | [] => by simp [sortedB, Ks]
  | [a] => by simp [sortedB, Ks]
  | a :: b :: r => by
    rw [sortedB, Bool.and_eq_true, sortedB_ks (es := b :: r), decide_eq_true_eq]
    constructor
    · rintro ⟨h1, h2⟩
      refine List.pairwise_cons.2 ⟨fun y hy => ?_, h2⟩
      rcases List.mem_cons.1 hy with rfl | hy
      · exact h1
      · exact cmpS_ord.ltle h1 (by have := (List.pairwise_cons.1 h2).1 y hy; omega)
    · intro h
      have h' := List.pairwise_cons.1 h
      exact ⟨h'.1 b (by simp), h'.2⟩
end Go.Proofs.Yteggjenncmjfmaa
