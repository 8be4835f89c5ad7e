/-
  MemFolds: the mathematics, and a row beside a mem.
-/
import Derived.Test.YtaamekkbgaeafaaDoorRangesW
import Derived.Deep.AppendLies
namespace Go.Proofs.YtaamekkbgaeafaaDoor
open Go.RowKit
set_option linter.unusedSectionVars false
set_option linter.unusedVariables false
variable [Inhabited E] [DecidableEq E]
/-- A key of the range. -/
def inR (lo hi : ByteArray) (e : E) : Bool := !(decide (cmpS e.key lo < 0)) && (decide (hi = ⟨#[]⟩) || decide (cmpS e.key hi < 0))
theorem filter_cut {α : Type} [Inhabited α] (P : α → Bool) (l : List α) (a b : Nat) (hab : a ≤ b) (hb : b ≤ l.length) (h : ∀ j, j < l.length → (P l[j]! = true ↔ a ≤ j ∧ j < b)) : l.filter P = (l.drop a).take (b - a) := by
  have e1 : l = l.take a ++ ((l.drop a).take (b - a) ++ (l.drop a).drop (b - a)) := by rw [List.take_append_drop, List.take_append_drop]
  have g : ∀ (j : Nat) (hj : j < l.length), l[j]! = l[j] := fun j hj => getElem!_pos l j hj
  have f1 : (l.take a).filter P = [] := by
    rw [List.filter_eq_nil_iff]
    intro x hx
    obtain ⟨j, hj, rfl⟩ := List.getElem_of_mem hx
    have hj2 : j < a := by rw [List.length_take] at hj; omega
    rw [List.getElem_take, ← g j (by omega)]
    intro e
    have := (h j (by omega)).1 e
    omega
  have f2 : ((l.drop a).take (b - a)).filter P = (l.drop a).take (b - a) := by
    rw [List.filter_eq_self]
    intro x hx
    obtain ⟨j, hj, rfl⟩ := List.getElem_of_mem hx
    rw [List.length_take, List.length_drop] at hj
    rw [List.getElem_take, List.getElem_drop, ← g (a + j) (by omega)]
    exact (h (a + j) (by omega)).2 ⟨by omega, by omega⟩
  have f3 : ((l.drop a).drop (b - a)).filter P = [] := by
    rw [List.filter_eq_nil_iff]
    intro x hx
    obtain ⟨j, hj, rfl⟩ := List.getElem_of_mem hx
    rw [List.length_drop, List.length_drop] at hj
    rw [List.getElem_drop, List.getElem_drop, ← g _ (by omega)]
    intro e
    have := (h _ (by omega)).1 e
    omega
  rw [e1, List.filter_append, List.filter_append, f1, f2, f3, List.append_nil, List.nil_append, ← e1]
theorem range_filter (lo hi : ByteArray) {es : List E} (h : Ks es) : rangeL lo hi es = es.filter (inR lo hi) := by
  rw [rangeL]
  refine (filter_cut (inR lo hi) es _ _ (from_le lo hi es) (toN_le lo hi es) (fun j hj => ?_)).symm
  have h1 := ks_place lo h j hj
  have h2 := ks_place hi h j hj
  unfold inR toN
  by_cases hh : hi = ⟨#[]⟩
  · rw [if_pos hh, decide_eq_true hh]
    simp only [Bool.true_or, Bool.and_true, Bool.not_eq_true', decide_eq_false_iff_not]
    rw [h1]
    omega
  · rw [if_neg hh, decide_eq_false hh]
    simp only [Bool.false_or, Bool.and_eq_true, Bool.not_eq_true', decide_eq_false_iff_not, decide_eq_true_eq]
    rw [h1, h2]
    have := belowN_le lo es
    omega
/-- Get of a key that is there. -/
theorem get_own {es : List E} (h : Ks es) (i : Nat) (hi : i < es.length) : isIn es[i]!.key es = true ∧ getV es[i]!.key es = es[i]! := by
  have p := ks_place es[i]!.key h
  have hb : belowN es[i]!.key es = i := by
    rcases Nat.lt_trichotomy (belowN es[i]!.key es) i with q | q | q
    · have h1 := (p (belowN es[i]!.key es) (by omega)).1 ?_
      · omega
      · have := List.pairwise_iff_getElem.1 h _ i (by omega) hi q
        rw [← getElem!_pos es i hi, ← getElem!_pos es (belowN es[i]!.key es) (by omega)] at this
        exact this
    · exact q
    · have := (p i hi).2 q
      rw [cmpS_eq.2 rfl] at this
      omega
  have hi2 : isIn es[i]!.key es = true := by
    rw [ks_isIn _ h, hb, decide_eq_true hi, decide_eq_true rfl]; rfl
  exact ⟨hi2, by rw [getV, if_pos hi2, hb]⟩
theorem filter_snoc (P : E → Bool) (l : List E) (i : Nat) (hi : i < l.length) : (l.take (i + 1)).filter P = (l.take i).filter P ++ (if P l[i]! then [l[i]!] else []) := by
  rw [take_snoc l i hi, List.filter_append]
  congr 1
  generalize l[i]! = x
  by_cases h : P x = true
  · rw [if_pos h]; simp [h]
  · rw [if_neg h]; simp [h]
/-- A mem and a row of entries beside it. -/
structure Bes (B : Nat) (w : World) (g : Nat) (A : Mm) (v : Value) (l : List E) (own : Nat → Prop) : Prop where
  mem : MemAt own w g A
  low : ∀ k, own k → B ≤ k ∧ k < w.heap.size
  row : w.ownsRow B 29 4 v l.length (flatE l)
  apart : ∀ k, v.ownBlock = some k → ¬ own k
theorem Bes.below {B g : Nat} {w w' : World} {A : Mm} {v : Value} {l : List E} {own : Nat → Prop} (h : Bes B w g A v l own) (hb : Below w.heap.size w w') : Bes B w' g A v l own :=
  ⟨h.mem.grown hb, fun k hk => ⟨(h.low k hk).1, Nat.lt_of_lt_of_le (h.low k hk).2 hb.size⟩, row_block h.row (fun k hk => hb.block k (h.row.lt k hk).2), h.apart⟩
theorem Bes.put {B g : Nat} {w w' : World} {A A' : Mm} {v : Value} {l : List E} {own : Nat → Prop} (h : Bes B w g A v l own) (hm : MemAt (grow own w) w' g A') (ho : Only own w w') (hB : B ≤ w.heap.size) : ∃ own', Bes B w' g A' v l own' := by
  refine ⟨here (grow own w) w', hm.now, fun k hk => ⟨?_, hk.2⟩, row_block h.row (fun k hk => ho.block k (h.row.lt k hk).2 (h.apart k hk)), fun k hk hk2 => ?_⟩
  · rcases hk.1 with q | q
    · exact (h.low k q).1
    · omega
  · rcases hk2.1 with q | q
    · exact h.apart k hk q
    · have := (h.row.lt k hk).2; omega
theorem Bes.app {B g : Nat} {w w' : World} {A : Mm} {v v' : Value} {l l' : List E} {own : Nat → Prop} (h : Bes B w g A v l own) (hr : w'.ownsRow B 29 4 v' l'.length (flatE l')) (hg : w.grownBy w' v.ownBlock) (hv : ∀ k, v'.ownBlock = some k → v.ownBlock = some k ∨ k = w.heap.size) : Bes B w' g A v' l' own := by
  refine ⟨h.mem.keep (fun k hk ho => hg.block k hk (fun e => h.apart k e.symm ho)), fun k hk => ⟨(h.low k hk).1, Nat.lt_of_lt_of_le (h.low k hk).2 hg.size⟩, hr, fun k hk hk2 => ?_⟩
  rcases hv k hk with q | q
  · exact h.apart k q hk2
  · have := (h.low k hk2).2; omega
end Go.Proofs.YtaamekkbgaeafaaDoor
