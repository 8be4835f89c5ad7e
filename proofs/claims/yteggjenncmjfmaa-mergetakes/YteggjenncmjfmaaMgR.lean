/-
  Rows of rows, handed in and handed on.
-/
import Derived.Test.YteggjenncmjfmaaMgQ
namespace Go.Proofs.Yteggjenncmjfmaa
open Go.ChangeShapes Go.WideShapes Go.ChangeAt Go.RowKit Go.Joins Go.Deep
set_option linter.unusedSectionVars false
set_option linter.unusedVariables false
variable [Inhabited E] [DecidableEq E] [Inhabited RV]
/-- A part that may be read: its slice, and what it has. -/
def PIn (w : World) (p : PV) : Prop := ∃ ao c, p.v = .slice ao p.l.length c ∧ EntsV w ao p.l.length p.l ∧ p.l.length ≤ c ∧ c ≤ 9223372036854775807 ∧ (ao = none → c = 0)
theorem PIn.below {w w' : World} {B : Nat} {p : PV} (h : PIn w p) (hb : Below B w w') (hB : w.heap.size ≤ B) : PIn w' p := by
  obtain ⟨ao, c, h1, h2, h3⟩ := h
  exact ⟨ao, c, h1, h2.below hb hB, h3⟩
theorem PIn.of_own {w : World} {base : Nat} {v : Value} {l : List E} (h : w.ownsRow base 29 4 v l.length (flatE l)) : PIn w ⟨v, l⟩ := by
  obtain ⟨ao, c, h1, h2, h3, h4, h5⟩ := ent_slice h rfl
  exact ⟨ao, c, h1, h2, h3, h4, h5⟩
theorem OwnP.pin {w : World} {base : Nat} {v : Value} {Ps : List PV} (h : OwnP w base v Ps) : ∀ p ∈ Ps, PIn w p := fun p hp => PIn.of_own (h.parts p hp)
theorem pv_rows {w : World} : ∀ Q : List PV, Q.length ≤ 9223372036854775807 → (∀ p ∈ Q, PIn w p) → ∃ R : List RV, R.length = Q.length ∧ (∀ r ∈ R, RIn w r) ∧ (∀ i, i < Q.length → R[i]!.age = i) ∧ R.map RV.l = Q.map PV.l ∧ R.map (fun r => Value.slice r.ao r.n r.c) = Q.map PV.v ∧ ∀ r ∈ R, r.ao = none → r.c = 0 := by
  intro Q
  induction Q using snoc_rec with
  | h0 => intro _ _; exact ⟨[], rfl, fun r hr => (by cases hr), fun i hi => absurd hi (Nat.not_lt_zero i), rfl, rfl, fun r hr => (by cases hr)⟩
  | hs Q p ih =>
    intro hq hp
    rw [List.length_append, List.length_singleton] at hq
    obtain ⟨R, r1, r2, r3, r4, r5, r6⟩ := ih (by omega) (fun x hx => hp x (List.mem_append_left _ hx))
    obtain ⟨ao, c, e1, e2, e3, e4, e5⟩ := hp p (by simp)
    refine ⟨R ++ [⟨Q.length, ao, p.l.length, c, p.l⟩], by simp [r1], fun r hr => ?_, fun i hi => ?_, by rw [List.map_append, List.map_append, r4]; rfl, by rw [List.map_append, List.map_append, r5, List.map_singleton, List.map_singleton, e1], fun r hr => ?_⟩
    · rcases List.mem_append.1 hr with hr | hr
      · exact r2 r hr
      · rw [List.mem_singleton.1 hr]; exact ⟨e2, e3, e4, by show Q.length ≤ 9223372036854775807; omega⟩
    · rw [List.length_append, List.length_singleton] at hi
      by_cases hiq : i < Q.length
      · rw [getElem!_pos _ _ (by simp [r1]; omega), List.getElem_append_left (by omega)]
        have := r3 i hiq
        rwa [getElem!_pos R i (by omega)] at this
      · have : i = Q.length := by omega
        subst this
        rw [getElem!_pos _ _ (by simp [r1]), List.getElem_append_right (by omega)]
        simp [r1]
    · rcases List.mem_append.1 hr with hr | hr
      · exact r6 r hr
      · rw [List.mem_singleton.1 hr]; exact e5
/-- A row of slices at b, off. -/
theorem lists_of {w : World} {ao : Option Addr} {Q : List PV} (hq : Q.length ≤ 9223372036854775807) (hp : ∀ p ∈ Q, PIn w p) (hc : 0 < Q.length → ∃ b off, ao = some ⟨b, off, none⟩ ∧ ∀ i p, Q[i]? = some p → w.cell? ⟨b, off + i, none⟩ = some p.v) :
    ∃ R, ListsV w ao Q.length R ∧ R.map RV.l = Q.map PV.l ∧ ∀ r ∈ R, r.ao = none → r.c = 0 := by
  obtain ⟨R, r1, r2, r3, r4, r5, r6⟩ := pv_rows Q hq hp
  refine ⟨R, ⟨r1, r2, r3, fun h => ?_⟩, r4, r6⟩
  obtain ⟨b, off, h1, h2⟩ := hc h
  refine ⟨b, off, h1, fun i hi => ?_⟩
  rw [h2 i Q[i] (List.getElem?_eq_getElem hi)]
  have h3 := congrArg (fun x => x[i]?) r5
  simp only [List.getElem?_map, List.getElem?_eq_getElem hi, List.getElem?_eq_getElem (show i < R.length by omega), Option.map_some] at h3
  rw [getElem!_pos R i (by omega), Option.some.inj h3]
theorem OwnP.cells {w : World} {base b n c : Nat} {Ps : List PV} (h : OwnP w base (.slice (some ⟨b, 0, none⟩) n c) Ps) : ∀ i p, Ps[i]? = some p → w.cell? ⟨b, i, none⟩ = some p.v := fun i p hp => by
  obtain ⟨hi, rfl⟩ := List.getElem?_eq_some_iff.1 hp
  have hn : n = Ps.length := by have := h.row.1; have h2 := h.row.2; rcases h2 with ⟨e, _⟩ | ⟨g, cap, cur, hv, _⟩ <;> cases (by assumption : Value.slice (some _) n c = _) <;> rfl
  subst hn
  have := h.row.cells (g := b) rfl i Ps[i].v (by rw [List.getElem?_map, List.getElem?_eq_getElem hi]; rfl)
  rw [Addr.add_lit] at this
  simpa using this
/-- A row that the call has just made of slices. -/
theorem lists_built {w : World} {Q : List PV} (h0 : 0 < Q.length) (hq : Q.length ≤ 9223372036854775807) (hp : ∀ p ∈ Q, PIn w p) (vs : Array Value) (hv : vs.toList = Q.map PV.v) :
    ∃ R, ListsV (w.alloc (.cells vs 25)) (some ⟨w.heap.size, 0, none⟩) Q.length R ∧ R.map RV.l = Q.map PV.l ∧ ∀ r ∈ R, r.ao = none → r.c = 0 := by
  refine lists_of hq (fun p hpq => (hp p hpq).below (bel_alloc w _) (Nat.le_refl _)) (fun _ => ⟨_, 0, rfl, fun i p hpi => ?_⟩)
  rw [cell_of_row _ _ _ _ _ _ (show (w.alloc (.cells vs 25)).heap[w.heap.size]? = some (.cells vs 25 (0, 0)) by rw [heap_alloc_get, if_pos rfl])]
  have h3 : vs[0 + i]? = vs.toList[i]? := by simp
  rw [h3, hv, List.getElem?_map, hpi]; rfl
section
variable {H : Type} {enc : TypeId × Value → H} {w : World} {base : Nat} {spare : Nat → Bool} {held : Bool}
theorem cells25 : Try.prog.cellsOf 25 = 1 := by kernel_rfl
/-- The cell that reads as a row of entries. -/
theorem cells_ents {n : Nat} {cs : List Value} {x : DataW H × List MemPlace} (hf : DataW.trod enc Try.prog w base spare held n 25 cs = some x) :
    ∃ ao n c es, cs = [.slice ao n c] ∧ EntsV w ao n es ∧ (∀ e ∈ es, e.key.size ≤ maxLen) ∧ n ≤ c ∧ c ≤ 9223372036854775807 ∧ (ao = none → c = 0) := by
  rcases open_slice Try.underlying25 hf with ⟨hcs, _⟩ | ⟨a, len, cap, m, n2, D, Pl, hcs, _, hl, hm, hmm, _, hel⟩
  · exact ⟨none, 0, 0, [], hcs, ⟨rfl, fun h => absurd h (by omega)⟩, (fun _ he => by cases he), Nat.le_refl _, by omega, fun _ => rfl⟩
  · have hlm : len ≤ m := by rw [hmm]; split <;> omega
    have hel2 : ∀ i, i < len → ∃ e : E, w.cells? base (a.add (i * 4)) 4 = some (encE e) ∧ e.key.size ≤ maxLen := by
      intro i hi
      obtain ⟨cs', h1, h2⟩ := hel i (by omega)
      rw [cells23] at h1
      obtain ⟨y0, y1, y2, y3, m2, _, hl4, g0, g1, g2, g3⟩ := trod_struct4 Try.underlying29 h2
      rw [cells23] at hl4
      obtain ⟨b0, b1, b2, b3, rfl⟩ := list4 hl4
      simp only [cells9, cells4, cells3, List.drop_zero, List.drop_succ_cons, List.take_succ_cons, List.take_zero] at g0 g1 g2 g3
      obtain ⟨s0, q0, _, z0⟩ := DataW.trod_string Try.underlying9 g0
      obtain ⟨s1, q1, _, z1⟩ := DataW.trod_string Try.underlying9 g1
      obtain ⟨bb, q2, _⟩ := DataW.trod_bool Try.underlying4 g2
      obtain ⟨n3, q3, _, z3⟩ := DataW.trod_int Try.underlying3 g3
      simp only [List.cons.injEq, and_true] at q0 q1 q2 q3
      subst q0 q1 q2 q3
      exact ⟨⟨s0, s1, bb, n3⟩, h1, by simpa using z0⟩
    obtain ⟨f, hf2⟩ := choose_lt hel2
    refine ⟨some a, len, cap, (List.range len).map f, hcs, ⟨by simp, fun hp => ?_⟩, ?_, hl, by unfold maxLen at hm; omega, fun h => by cases h⟩
    · obtain ⟨b, off, spot⟩ := a
      have hspot : spot = none := by
        have := (World.cells?_some (hf2 0 hp).1).2.2 0 (by omega)
        have h3 : (encE (f 0))[0]? = some (.string (f 0).key) := rfl
        rw [h3] at this
        simpa [Addr.add] using World.cell?_spot this
      subst hspot
      refine ⟨b, off, rfl, fun j u hu => ?_⟩
      have hj : j < len * 4 := by
        have := (List.getElem?_eq_some_iff.1 hu).1
        rw [flatE_len] at this; simpa using this
      rw [flatE_get _ j (by simpa using hj)] at hu
      have hget : ((List.range len).map f)[j / 4]! = f (j / 4) := by
        rw [getElem!_pos _ _ (by simp; omega)]; simp
      rw [hget] at hu
      have := (World.cells?_some (hf2 (j / 4) (by omega)).1).2.2 (j % 4) (by omega)
      rw [hu, Addr.add_lit, Addr.add_lit] at this
      rw [← this]
      congr 2
      omega
    · intro e he
      simp only [List.mem_map, List.mem_range] at he
      obtain ⟨i, hi, rfl⟩ := he
      exact (hf2 i hi).2
set_option maxRecDepth 100000 in
theorem open_lists {r : Reach} {b0 : Nat} {v : Value} {d : DataW H} {p : List MemPlace} (hv : Value.okWide Try.prog w r b0 22 v) (h : DataW.Trod enc Try.prog w base spare held 22 v d p) :
    ∃ ao n c, ∃ Q : List PV, v = .slice ao n c ∧ n ≤ c ∧ c ≤ 9223372036854775807 ∧ (∀ p ∈ Q, PIn w p) ∧ Q.length = n ∧ (0 < n → ∃ b off, ao = some ⟨b, off, none⟩ ∧ ∀ i p, Q[i]? = some p → w.cell? ⟨b, off + i, none⟩ = some p.v) := by
  obtain ⟨a0, len0, cap0, rfl⟩ := okWide_slice Try.underlying22 hv
  obtain ⟨fuel, hf⟩ := h
  rcases open_slice Try.underlying22 hf with ⟨hcs, _⟩ | ⟨a, len, cap, m, n, D, Pl, hcs, _, hl, hm, hmm, _, hel⟩
  · simp [Value.cells] at hcs
    obtain ⟨rfl, rfl, rfl⟩ := hcs
    exact ⟨none, 0, 0, [], rfl, Nat.le_refl _, by omega, (fun _ h => (by cases h)), rfl, fun h => absurd h (by omega)⟩
  · simp [Value.cells] at hcs
    obtain ⟨rfl, rfl, rfl⟩ := hcs
    have hlm : len0 ≤ m := by rw [hmm]; split <;> omega
    have hel2 : ∀ i, i < len0 → ∃ q : PV, w.cells? base (a.add (i * 1)) 1 = some [q.v] ∧ PIn w q := by
      intro i hi
      obtain ⟨cs', h1, h2⟩ := hel i (by omega)
      rw [cells25] at h1
      obtain ⟨ao, n3, c3, es, rfl, e1, -, e2, e3, e4⟩ := cells_ents h2
      have he : es.length = n3 := e1.1
      subst he
      exact ⟨⟨.slice ao es.length c3, es⟩, h1, ao, c3, rfl, e1, e2, e3, e4⟩
    haveI : Inhabited PV := ⟨⟨.bool false, []⟩⟩
    obtain ⟨f, hf2⟩ := choose_lt (α := PV) hel2
    refine ⟨some a, len0, cap0, (List.range len0).map f, rfl, hl, by unfold maxLen at hm; omega, fun p hp => ?_, by simp, fun hp => ?_⟩
    · simp only [List.mem_map, List.mem_range] at hp
      obtain ⟨i, hi, rfl⟩ := hp
      exact (hf2 i hi).2
    · obtain ⟨b, off, spot⟩ := a
      have hc : ∀ i, i < len0 → w.cell? ((⟨b, off, spot⟩ : Addr).add (i * 1)) = some (f i).v := fun i hi => by
        have := (World.cells?_some (hf2 i hi).1).2.2 0 (by omega)
        simpa [Addr.add] using this
      have hspot : spot = none := by simpa [Addr.add] using World.cell?_spot (hc 0 hp)
      subst hspot
      refine ⟨b, off, rfl, fun i p hpi => ?_⟩
      obtain ⟨hi, rfl⟩ := List.getElem?_eq_some_iff.1 hpi
      have := hc i (by simpa using hi)
      rw [Addr.add_lit, Nat.mul_one] at this
      rw [this]; simp
end
end Go.Proofs.Yteggjenncmjfmaa
