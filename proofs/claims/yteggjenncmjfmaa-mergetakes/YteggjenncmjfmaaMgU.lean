/-
  A part's keys weigh no more than what the form reaches.
-/
import Derived.Test.YteggjenncmjfmaaMgT
import Derived.SizedLaws
namespace Go.Proofs.Yteggjenncmjfmaa
open Go.ChangeShapes Go.WideShapes Go.ChangeAt Go.RowKit Go.Joins Go.Deep
set_option linter.unusedSectionVars false
set_option linter.unusedVariables false
variable [Inhabited E] [DecidableEq E] [Inhabited RV]
theorem weights_all {H : Type} {e : TypeId} {l : List (DataW H)} {d : DataW H} (h : d ∈ l) {n : Nat} (hn : n ∈ d.weights Try.prog e) : n ∈ DataW.weightsAll Try.prog e l := by
  induction l with
  | nil => cases h
  | cons x l ih =>
    simp only [DataW.weightsAll, List.mem_append]
    rcases List.mem_cons.1 h with rfl | h
    · exact .inl hn
    · exact .inr (ih h)
theorem open_partS {H : Type} {enc : TypeId × Value → H} {w : World} {r : Reach} {b0 : Nat} {v : Value} {d : DataW H} {p : List MemPlace} (hv : Value.okWide Try.prog w r b0 25 v) (h : DataW.Trod enc Try.prog w 0 (fun _ => true) true 25 v d p) (hw : ∀ n ∈ d.weights Try.prog 25, n ≤ reachBytes) :
    ∃ q : PV, v = q.v ∧ PIn w q ∧ ∀ e ∈ q.l, e.key.size ≤ 140737488351232 := by
  obtain ⟨q, rfl, hq, -⟩ := open_part hv h
  refine ⟨q, rfl, hq, ?_⟩
  obtain ⟨ao, c, hqv, hE, hle, hcm, h0⟩ := hq
  obtain ⟨qv, ql⟩ := q
  simp only at hqv hE hle
  subst hqv
  obtain ⟨fuel, hf⟩ := h
  rcases open_slice Try.underlying25 hf with ⟨hcs, _⟩ | ⟨a, len, cap, m, n2, D, Pl, hcs, _, hl, hm, hmm, hx, hel⟩
  · simp [Value.cells] at hcs
    have : ql = [] := List.eq_nil_of_length_eq_zero (by omega)
    subst this
    intro e he; cases he
  · simp [Value.cells] at hcs
    obtain ⟨rfl, rfl, rfl⟩ := hcs
    intro e he
    obtain ⟨i, hi0, rfl⟩ := List.getElem_of_mem he
    have hi : i < ql.length := hi0
    have hlm : ql.length ≤ m := by rw [hmm, if_pos rfl]; exact hl
    simp only at *
    obtain ⟨b, off, ha, hc⟩ := hE.2 (by omega)
    cases ha
    obtain ⟨cs', h1, h2⟩ := hel i (by omega)
    rw [cells23] at h1
    obtain ⟨y0, y1, y2, y3, m2, hy, hl4, g0, g1, g2, g3⟩ := trod_struct4 Try.underlying29 h2
    rw [cells23] at hl4
    obtain ⟨b0, b1, b2, b3, rfl⟩ := list4 hl4
    simp only [cells9, cells4, cells3, List.drop_zero, List.drop_succ_cons, List.take_succ_cons, List.take_zero] at g0 g1 g2 g3
    obtain ⟨s0, q0, hy0, z0⟩ := DataW.trod_string Try.underlying9 g0
    simp only [List.cons.injEq, and_true] at q0
    subst q0
    have hcell := (World.cells?_some h1).2.2 0 (by omega)
    have hk : (ql[i]).key = s0 := by
      have h3 := hc (i * 4) (.string (ql[i]).key) (by
        rw [flatE_get _ _ (by omega), show i * 4 / 4 = i by omega, show i * 4 % 4 = 0 by omega, getElem!_pos ql i hi]; rfl)
      rw [Addr.add_lit, Addr.add_lit, Nat.add_zero, h3] at hcell
      simpa using hcell
    rw [hk]
    have hd : d = .slice ((List.range ql.length).map D) ((List.range (m - ql.length)).map fun j => D (ql.length + j)) := congrArg Prod.fst hx
    have hDi : D i = .agg [y0.1, y1.1, y2.1, y3.1] := congrArg Prod.fst hy
    have hin : s0.size ∈ (D i).weights Try.prog 29 := by
      rw [hDi, hy0]
      unfold DataW.weights
      rw [Try.underlying29]
      show _ ∈ DataW.weightsEach Try.prog (_ :: _) _
      unfold DataW.weightsEach
      refine List.mem_append_left _ ?_
      show _ ∈ (DataW.lit (Lit.string s0.data.toList)).weights Try.prog _
      unfold DataW.weights
      simp
    have h9 := hw s0.size (by
      rw [hd]
      unfold DataW.weights
      rw [Try.underlying25]
      exact List.mem_cons_of_mem _ (List.mem_append_left _ (weights_all (List.mem_map.2 ⟨i, List.mem_range.2 hi, rfl⟩) hin)))
    unfold reachBytes at h9
    exact h9
end Go.Proofs.Yteggjenncmjfmaa
