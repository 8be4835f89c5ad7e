/-
  What stands while the law MergeSplits goes over the parts.
-/
import Derived.Test.YteggjenncmjfmaaMgZ
namespace Go.Proofs.Yteggjenncmjfmaa
open Go.RowKit
set_option linter.unusedSectionVars false
set_option linter.unusedVariables false
variable [Inhabited E] [DecidableEq E] [Inhabited RV]
structure SpI (w2 w3 w4 wr : World) (v v' J : Value) (S : List (List E)) (Qs Rs : List PV) (i : Nat) : Prop where
  row : OwnP wr w2.heap.size v Rs
  want : OwnP wr w3.heap.size v' Qs
  joined : wr.ownsRow w4.heap.size 29 4 J (S.take i).flatten.length (flatE (S.take i).flatten)
  low : ∀ k, (v.ownBlock = some k ∨ ∃ p ∈ Rs, p.v.ownBlock = some k) → k < w3.heap.size
  mid : ∀ k, (v'.ownBlock = some k ∨ ∃ p ∈ Qs, p.v.ownBlock = some k) → k < w4.heap.size
  len : Rs.length = S.length
  all : ∀ (j : Nat) p, Rs[j]? = some p → p.l.length = S[j]!.length ∧ (i ≤ j → p.l = S[j]!)
  bel : Below w2.heap.size w2 wr
  size : w4.heap.size ≤ wr.heap.size
  s34 : w3.heap.size ≤ w4.heap.size
variable {w2 w3 w4 wr w' : World} {v v' J J' : Value} {S : List (List E)} {Qs Rs : List PV} {i : Nat}
theorem SpI.grow (h : SpI w2 w3 w4 wr v v' J S Qs Rs i) (hb : Below wr.heap.size wr w') : SpI w2 w3 w4 w' v v' J S Qs Rs i :=
  ⟨h.row.below hb (Nat.le_refl _), h.want.below hb (Nat.le_refl _), own_below h.joined hb (Nat.le_refl _), h.low, h.mid, h.len, h.all, h.bel.trans (hb.mono h.bel.size), Nat.le_trans h.size hb.size, h.s34⟩
theorem SpI.append (h : SpI w2 w3 w4 wr v v' J S Qs Rs i) (hi : i < S.length) {L : List E} (hL : (S.take i).flatten ++ S[i]! = L) (hj : w'.ownsRow w4.heap.size 29 4 J' L.length (flatE L)) (hb : Below w4.heap.size wr w') (h24 : w2.heap.size ≤ w4.heap.size) : SpI w2 w3 w4 w' v v' J' S Qs Rs (i + 1) := by
  have hf : (S.take (i + 1)).flatten = L := by
    rw [take_snoc S i hi, List.flatten_append, ← hL]; simp
  have hlt : ∀ k, k < w4.heap.size → w'.heap[k]? = wr.heap[k]? := fun k hk => hb.block k hk
  refine ⟨h.row.keepB fun k hk => hlt k (Nat.lt_of_lt_of_le (h.low k hk) h.s34), h.want.keepB fun k hk => hlt k (h.mid k hk), by rw [hf]; exact hj, h.low, h.mid, h.len, fun j p hp => ⟨(h.all j p hp).1, fun hij => (h.all j p hp).2 (by omega)⟩, h.bel.trans (hb.mono h24), Nat.le_trans h.size hb.size, h.s34⟩
theorem SpI.store (h : SpI w2 w3 w4 wr v v' J S Qs Rs (i + 1)) {g n c j : Nat} {l : List E} (hp : Rs[i]? = some ⟨.slice (some ⟨g, 0, none⟩) n c, l⟩) (hn : l.length = n) (hj : j < n) (x : E) : ∃ l', SpI w2 w3 w4 (wr.setCells g (j * 4) (encE x)) v v' J S Qs (Rs.set i ⟨.slice (some ⟨g, 0, none⟩) n c, l'⟩) (i + 1) ∧ (Rs.set i ⟨.slice (some ⟨g, 0, none⟩) n c, l'⟩)[i]? = some ⟨.slice (some ⟨g, 0, none⟩) n c, l'⟩ ∧ l'.length = n := by
  have hi : i < Rs.length := (List.getElem?_eq_some_iff.1 hp).1
  have hmem : (⟨.slice (some ⟨g, 0, none⟩) n c, l⟩ : PV) ∈ Rs := List.mem_of_getElem? hp
  have hg3 : g < w3.heap.size := h.low g (.inr ⟨_, hmem, rfl⟩)
  have hg2 : w2.heap.size ≤ g := (h.row.bounds (.inr ⟨_, hmem, rfl⟩)).1
  have hb : Below w2.heap.size wr (wr.setCells g (j * 4) (encE x)) := ((((Below.refl _ _).setCell hg2 _).setCell hg2 _).setCell hg2 _).setCell hg2 _
  have hset : (Rs.set i ⟨.slice (some ⟨g, 0, none⟩) n c, l.set j x⟩)[i]? = some ⟨.slice (some ⟨g, 0, none⟩) n c, l.set j x⟩ := by rw [List.getElem?_set_self hi]
  refine ⟨l.set j x, ⟨h.row.store hp (by omega) hn x, h.want.keepB fun k hk => setCells_ne _ _ _ _ _ ?_, row_block h.joined fun k hk => setCells_ne _ _ _ _ _ ?_, fun k hk => ?_, h.mid, by rw [List.length_set]; exact h.len, fun t p ht => ?_, h.bel.trans hb, Nat.le_trans h.size hb.size, h.s34⟩, hset, by rw [List.length_set]; exact hn⟩
  · have := (h.want.bounds hk).1; omega
  · have := (h.joined.lt k hk).1; have := h.s34; omega
  · rcases hk with hk | ⟨p, hpm, hk⟩
    · exact h.low k (.inl hk)
    · rcases List.mem_or_eq_of_mem_set hpm with hpm | rfl
      · exact h.low k (.inr ⟨p, hpm, hk⟩)
      · exact h.low k (.inr ⟨_, hmem, hk⟩)
  · rw [List.getElem?_set] at ht
    split at ht
    · rename_i e
      subst e
      try rw [if_pos hi] at ht
      cases ht
      exact ⟨by show (l.set j x).length = _; rw [List.length_set]; exact (h.all i _ hp).1, fun hij => absurd hij (by omega)⟩
    · exact h.all t p ht
/-- The part at a place: its cell, and what it has. -/
theorem SpI.at_ (h : SpI w2 w3 w4 wr v v' J S Qs Rs i) (t : Nat) (ht : t < S.length) : ∃ b c ao ac l, v = .slice (some ⟨b, 0, none⟩) S.length c ∧ wr.cell? ⟨b, t, none⟩ = some (.slice ao S[t]!.length ac) ∧ Rs[t]? = some ⟨.slice ao S[t]!.length ac, l⟩ ∧ EntsV wr ao S[t]!.length l ∧ (ao = none → ac = 0) ∧ (i ≤ t → l = S[t]!) := by
  obtain ⟨b, c, ao, ac, p, e1, -, e2, -, e3, e4, e5, -, -⟩ := h.row.at_ t (by rw [h.len]; exact ht)
  obtain ⟨pv, l⟩ := p
  have h1 := h.all t _ e3
  simp only at e2 e4 e5 h1
  subst e4
  rw [h1.1] at e2 e3 e5
  rw [h.len] at e1
  have hown := h.row.parts _ (List.mem_of_getElem? e3)
  simp only at hown
  obtain ⟨a1, c1, f1, -, -, -, f2⟩ := ent_slice hown rfl
  simp only [Value.slice.injEq] at f1
  obtain ⟨rfl, -, rfl⟩ := f1
  exact ⟨b, c, ao, ac, l, e1, e2, e3, e5, f2, h1.2⟩
/-- The part that is wanted at a place. -/
theorem SpI.wat (h : SpI w2 w3 w4 wr v v' J S Qs Rs i) (hQ : Qs.map PV.l = S) (t : Nat) (ht : t < S.length) : ∃ b c ao ac, v' = .slice (some ⟨b, 0, none⟩) S.length c ∧ wr.cell? ⟨b, t, none⟩ = some (.slice ao S[t]!.length ac) ∧ EntsV wr ao S[t]!.length S[t]! := by
  have hl : Qs.length = S.length := by rw [← hQ, List.length_map]
  obtain ⟨b, c, ao, ac, p, e1, -, e2, -, e3, e4, e5, -, -⟩ := h.want.at_ t (by omega)
  have hpl : p.l = S[t]! := by
    have h1 := congrArg (fun x => x[t]?) hQ
    simp only [List.getElem?_map, e3, Option.map_some] at h1
    rw [getElem!_pos S t ht]
    rw [List.getElem?_eq_getElem ht] at h1
    exact Option.some.inj h1
  rw [hpl] at e2 e5
  rw [hl] at e1
  exact ⟨b, c, ao, ac, e1, e2, e5⟩
end Go.Proofs.Yteggjenncmjfmaa
