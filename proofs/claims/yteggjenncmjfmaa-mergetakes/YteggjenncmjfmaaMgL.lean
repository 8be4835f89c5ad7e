/-
  Rows of rows of entries that a call has made.
-/
import Derived.Test.YteggjenncmjfmaaMgK
namespace Go.Proofs.Yteggjenncmjfmaa
open Go.RowKit
set_option linter.unusedSectionVars false
variable [Inhabited E] [DecidableEq E] [Inhabited RV]
/-- A row of entries: the slice, and what it has. -/
structure PV where
  v : Value
  l : List E
theorem info25 : (Try.prog.info? 25).map (fun i => (i.zero, i.size, i.bytes)) = some (some (.slice none 0 0), 1, 24) := by kernel_rfl
structure OwnP (w : World) (base : Nat) (v : Value) (Ps : List PV) : Prop where
  row : w.ownsRow base 25 1 v Ps.length (Ps.map PV.v)
  parts : ∀ p ∈ Ps, w.ownsRow base 29 4 p.v p.l.length (flatE p.l)
  apart : Ps.Pairwise fun a b => ∀ k, a.v.ownBlock = some k → b.v.ownBlock ≠ some k
theorem OwnP.keep {w w' : World} {base : Nat} {v : Value} {Ps : List PV} (h : OwnP w base v Ps) (hb : ∀ k, k < w.heap.size → base ≤ k → w'.heap[k]? = w.heap[k]?) : OwnP w' base v Ps :=
  ⟨row_block h.row (fun k hk => hb k (h.row.lt k hk).2 (h.row.lt k hk).1), fun p hp => row_block (h.parts p hp) (fun k hk => hb k ((h.parts p hp).lt k hk).2 ((h.parts p hp).lt k hk).1), h.apart⟩
theorem OwnP.below {w w' : World} {base B : Nat} {v : Value} {Ps : List PV} (h : OwnP w base v Ps) (hb : Below B w w') (hB : w.heap.size ≤ B) : OwnP w' base v Ps := h.keep fun k hk _ => hb.block k (by omega)
theorem OwnP.mono {w : World} {base b' : Nat} {v : Value} {Ps : List PV} (h : OwnP w base v Ps) (hb : b' ≤ base) : OwnP w b' v Ps := ⟨ownsRow_mono h.row hb, fun p hp => ownsRow_mono (h.parts p hp) hb, h.apart⟩
theorem ownP_nil (w : World) (base : Nat) : OwnP w base (.slice none 0 0) [] := ⟨World.ownsRow_nil _ _ _ _, fun _ h => (by cases h), List.Pairwise.nil⟩
theorem ent_slice {w : World} {base : Nat} {v : Value} {n : Nat} {es : List E} (h : w.ownsRow base 29 4 v n (flatE es)) (hn : es.length = n) : ∃ ao c, v = .slice ao n c ∧ EntsV w ao n es ∧ n ≤ c ∧ c ≤ 9223372036854775807 ∧ (ao = none → c = 0) := by
  rcases h.2 with ⟨rfl, h0⟩ | ⟨b, cap, cur, rfl, hB, hgg, hn2, hm, rest⟩
  · subst h0
    exact ⟨none, 0, rfl, ⟨hn, fun x => absurd x (Nat.lt_irrefl _)⟩, Nat.le_refl _, by omega, fun _ => rfl⟩
  · obtain ⟨ao, c, e1, e2, e3⟩ := own_entsV0 h hn
    cases e1
    exact ⟨_, _, rfl, e2, hn2, by unfold maxLen at hm; omega, e3⟩
/-- A part is put behind the others. -/
theorem OwnP.snoc {w w1 w4 : World} {base g4 cap4 : Nat} {v u : Value} {Ps : List PV} {l : List E} (h : OwnP w base v Ps) (hb : Below w.heap.size w w1) (hu : w1.ownsRow w.heap.size 29 4 u l.length (flatE l)) (hbase : base ≤ w.heap.size)
    (hr : w4.ownsRow base 25 1 (.slice (some ⟨g4, 0, none⟩) (Ps.length + 1) cap4) (Ps.length + 1) (Ps.map PV.v ++ [u])) (hg : w1.grownBy w4 v.ownBlock) : OwnP w4 base (.slice (some ⟨g4, 0, none⟩) (Ps.length + 1) cap4) (Ps ++ [⟨u, l⟩]) := by
  have h1 := h.below hb (Nat.le_refl _)
  have hne : ∀ (p : Value) (n : Nat) (xs : List Value) (k : Nat) (B : Nat), w1.ownsRow B 29 4 p n xs → p.ownBlock = some k → some k ≠ v.ownBlock := fun p n xs k B hp hk e => by
    obtain ⟨c1, e1⟩ := row_heap hp hk
    obtain ⟨c2, e2⟩ := row_heap h1.row e.symm
    exact ne_kind e1 e2 (by decide) rfl
  refine ⟨by rw [List.length_append, List.length_singleton, List.map_append]; exact hr, fun p hp => ?_, ?_⟩
  · rcases List.mem_append.1 hp with hp | hp
    · exact row_block (h1.parts p hp) (fun k hk => hg.block k ((h1.parts p hp).lt k hk).2 (hne _ _ _ k _ (h1.parts p hp) hk))
    · rw [List.mem_singleton.1 hp]
      exact ownsRow_mono (row_block hu (fun k hk => hg.block k (hu.lt k hk).2 (hne _ _ _ k _ hu hk))) hbase
  · refine List.pairwise_append.2 ⟨h.apart, List.pairwise_singleton _ _, fun a ha b hb2 k hk hk2 => ?_⟩
    rw [List.mem_singleton.1 hb2] at hk2
    have q1 := ((h.parts a ha).lt k hk).2
    have q2 := (hu.lt k hk2).1
    omega
/-- A row of parts, as lists that are handed in. -/
theorem OwnP.lists {w : World} {base : Nat} {v : Value} {Ps : List PV} (h : OwnP w base v Ps) (hl : Ps.length ≤ 1000000) : ∃ ao c R, v = .slice ao Ps.length c ∧ Ps.length ≤ c ∧ c ≤ 9223372036854775807 ∧ ListsV w ao Ps.length R ∧ R.map RV.l = Ps.map PV.l ∧ R.map (fun r => Value.slice r.ao r.n r.c) = Ps.map PV.v := by
  have key : ∀ Q : List PV, Q.length ≤ 1000000 → (∀ p ∈ Q, w.ownsRow base 29 4 p.v p.l.length (flatE p.l)) → ∃ R : List RV, R.length = Q.length ∧ (∀ r ∈ R, RIn w r) ∧ (∀ i, i < Q.length → R[i]!.age = i) ∧ R.map RV.l = Q.map PV.l ∧ R.map (fun r => Value.slice r.ao r.n r.c) = Q.map PV.v := by
    intro Q
    induction Q using snoc_rec with
    | h0 => intro _ _; exact ⟨[], rfl, fun r hr => (by cases hr), fun i hi => absurd hi (Nat.not_lt_zero i), rfl, rfl⟩
    | hs Q p ih =>
      intro hq hp
      rw [List.length_append, List.length_singleton] at hq
      obtain ⟨R, r1, r2, r3, r4, r5⟩ := ih (by omega) (fun x hx => hp x (List.mem_append_left _ hx))
      obtain ⟨ao, c, e1, e2, e3, e4, _⟩ := ent_slice (hp p (by simp)) rfl
      refine ⟨R ++ [⟨Q.length, ao, p.l.length, c, p.l⟩], by simp [r1], fun r hr => ?_, fun i hi => ?_, by rw [List.map_append, List.map_append, r4]; rfl, by rw [List.map_append, List.map_append, r5, List.map_singleton, List.map_singleton, e1]⟩
      · rcases List.mem_append.1 hr with hr | hr
        · exact r2 r hr
        · rw [List.mem_singleton.1 hr]; exact ⟨e2, e3, e4, by show Q.length ≤ 9223372036854775807; omega⟩
      · rw [List.length_append, List.length_singleton] at hi
        by_cases hiq : i < Q.length
        · rw [getElem!_pos _ _ (by simp [r1]; omega), List.getElem_append_left (by omega)]
          have := r3 i hiq
          rwa [getElem!_pos R i (by omega)] at this
        · have : i = Q.length := by omega
          subst this
          rw [getElem!_pos _ _ (by simp [r1]), List.getElem_append_right (by omega)]
          simp [r1]
  obtain ⟨R, r1, r2, r3, r4, r5⟩ := key Ps hl h.parts
  rcases h.row.2 with ⟨hv, h0⟩ | ⟨b, cap, cur, hv, hB, hgg, hn2, hm, rest⟩
  · refine ⟨none, 0, R, by rw [hv, h0], by omega, by omega, ⟨r1, r2, r3, fun hp => by omega⟩, r4, r5⟩
  · refine ⟨some ⟨b, 0, none⟩, cap, R, hv, hn2, by unfold maxLen at hm; omega, ⟨r1, r2, r3, fun hp => ⟨b, 0, rfl, fun i hi => ?_⟩⟩, r4, r5⟩
    have h5 := h.row
    rw [hv] at h5
    have := h5.cells (g := b) rfl i (.slice R[i]!.ao R[i]!.n R[i]!.c) (by rw [← r5, List.getElem?_map, List.getElem?_eq_getElem (by omega), getElem!_pos R i (by omega)]; rfl)
    rw [Addr.add_lit] at this
    exact this
end Go.Proofs.Yteggjenncmjfmaa
