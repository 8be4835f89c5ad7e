/-
  A row of parts, one of whose entries is written over.
-/
import Derived.Test.YteggjenncmjfmaaMgY
namespace Go.Proofs.Yteggjenncmjfmaa
open Go.RowKit
set_option linter.unusedSectionVars false
set_option linter.unusedVariables false
variable [Inhabited E] [DecidableEq E] [Inhabited RV]
theorem setCells_ne (b : Nat) : ∀ (vs : List Value) (o : Nat) (w : World) (k : Nat), k ≠ b → (w.setCells b o vs).heap[k]? = w.heap[k]?
  | [], _, _, _, _ => rfl
  | u :: r, o, w, k, h => by rw [World.setCells, setCells_ne b r (o + 1) _ k h, heap_set_ne _ _ _ h]
theorem OwnP.keepB {w w' : World} {base : Nat} {v : Value} {Ps : List PV} (h : OwnP w base v Ps) (hk : ∀ k, (v.ownBlock = some k ∨ ∃ p ∈ Ps, p.v.ownBlock = some k) → w'.heap[k]? = w.heap[k]?) : OwnP w' base v Ps :=
  ⟨row_block h.row (fun k h2 => hk k (.inl h2)), fun p hp => row_block (h.parts p hp) (fun k h2 => hk k (.inr ⟨p, hp, h2⟩)), h.apart⟩
theorem OwnP.bounds {w : World} {base : Nat} {v : Value} {Ps : List PV} (h : OwnP w base v Ps) {k : Nat} (hk : v.ownBlock = some k ∨ ∃ p ∈ Ps, p.v.ownBlock = some k) : base ≤ k ∧ k < w.heap.size := by
  rcases hk with h2 | ⟨p, hp, h2⟩
  · exact h.row.lt k h2
  · exact (h.parts p hp).lt k h2
theorem OwnP.store {w : World} {base g n c i j : Nat} {v : Value} {Ps : List PV} {l : List E} (h : OwnP w base v Ps) (hp : Ps[i]? = some ⟨.slice (some ⟨g, 0, none⟩) n c, l⟩) (hj : j < l.length) (hn : l.length = n) (x : E) :
    OwnP (w.setCells g (j * 4) (encE x)) base v (Ps.set i ⟨.slice (some ⟨g, 0, none⟩) n c, l.set j x⟩) := by
  obtain ⟨hi, he⟩ := List.getElem?_eq_some_iff.1 hp
  have hmem : (⟨.slice (some ⟨g, 0, none⟩) n c, l⟩ : PV) ∈ Ps := List.mem_of_getElem? hp
  have hmap : (Ps.set i ⟨.slice (some ⟨g, 0, none⟩) n c, l.set j x⟩).map PV.v = Ps.map PV.v := by
    rw [List.map_set]
    refine List.ext_getElem? fun k => ?_
    rw [List.getElem?_set]
    split
    · rename_i e
      subst e
      rw [List.getElem?_map, hp]
      simp [hi]
    · rfl
  have hgp := h.parts _ hmem
  have hgb : (Value.slice (some ⟨g, 0, none⟩) n c).ownBlock = some g := rfl
  refine ⟨?_, fun p hpm => ?_, ?_⟩
  · rw [hmap, List.length_set]
    refine row_block h.row (fun k hk => setCells_ne _ _ _ _ _ fun e => ?_)
    subst e
    obtain ⟨c1, e1⟩ := row_heap hgp hgb
    obtain ⟨c2, e2⟩ := row_heap h.row hk
    exact ne_kind e1 e2 (by decide) rfl
  · obtain ⟨k, hk, rfl⟩ := List.getElem_of_mem hpm
    have hk2 : k < Ps.length := by rw [List.length_set] at hk; exact hk
    rw [List.getElem_set]
    split
    · show World.ownsRow _ _ _ _ _ (l.set j x).length _
      rw [List.length_set]
      have h1 := hgp
      simp only at h1
      rw [hn] at h1 ⊢
      exact own_set h1 j (by omega) x.key x.value x.del x.seq
    · rename_i hne
      refine row_block (h.parts _ (List.getElem_mem hk2)) (fun b hb => setCells_ne _ _ _ _ _ fun e => ?_)
      subst e
      rcases Nat.lt_or_gt_of_ne hne with hlt | hgt
      · have := List.pairwise_iff_getElem.1 h.apart i k hi hk2 hlt
        rw [he] at this
        exact this b hgb hb
      · have := List.pairwise_iff_getElem.1 h.apart k i hk2 hi hgt
        rw [he] at this
        exact this b hb hgb
  · have h1 : (Ps.map PV.v).Pairwise fun a b => ∀ k, a.ownBlock = some k → b.ownBlock ≠ some k := List.pairwise_map.2 h.apart
    rw [← hmap] at h1
    exact List.pairwise_map.1 h1
end Go.Proofs.Yteggjenncmjfmaa
