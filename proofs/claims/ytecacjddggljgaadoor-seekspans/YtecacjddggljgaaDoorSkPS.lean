/-
  Arguments that are spans, opened.
-/
import Derived.Test.YtecacjddggljgaaDoorPartAH
import Derived.Test.YtecacjddggljgaaDoorSDigsIn
import Derived.Test.YtecacjddggljgaaDoorSRowsIn
namespace Go.Proofs.YtecacjddggljgaaDoor
open Go.ChangeShapes Go.WideShapes Go.ChangeAt Go.RowKit Go.Joins Go.Deep
set_option linter.unusedSectionVars false
variable [Inhabited E]
theorem cells39s : Tryd.prog.cellsOf 39 = 3 := by kernel_rfl
theorem cells37s : Tryd.prog.cellsOf 37 = 1 := by kernel_rfl
theorem cells28s : Tryd.prog.cellsOf 28 = 1 := by kernel_rfl
theorem list3s {cs : List Value} (h : cs.length = 3) : ∃ a b c, cs = [a, b, c] := by
  match cs, h with
  | [a, b, c], _ => exact ⟨a, b, c, rfl⟩
theorem struct3s {H : Type} {enc : TypeId × Value → H} {w : World} {P : Program} {t : TypeId} {f0 f1 f2 : Field} {fuel : Nat} {cs : List Value} {x : DataW H × List MemPlace} (ht : P.underlying t = some (.struct #[f0, f1, f2])) (h : DataW.trod enc P w 0 (fun _ => true) true fuel t cs = some x) :
    ∃ y0 y1 y2 n, cs.length = P.cellsOf t ∧ DataW.trod enc P w 0 (fun _ => true) true n f0.type ((cs.drop f0.offset).take (P.cellsOf f0.type)) = some y0 ∧ DataW.trod enc P w 0 (fun _ => true) true n f1.type ((cs.drop f1.offset).take (P.cellsOf f1.type)) = some y1 ∧ DataW.trod enc P w 0 (fun _ => true) true n f2.type ((cs.drop f2.offset).take (P.cellsOf f2.type)) = some y2 := by
  obtain ⟨xs, n, _, rfl, hl, hlen, hf⟩ := DataW.trod_struct ht h
  match xs, hlen with
  | [y0, y1, y2], _ => exact ⟨y0, y1, y2, n, hl, hf 0 f0 rfl, hf 1 f1 rfl, hf 2 f2 rfl⟩
section
variable {H : Type} {enc : TypeId × Value → H} {w : World}
theorem slice_of {n : Nat} {t e : TypeId} {v : Value} {x : DataW H × List MemPlace} (ht : Tryd.prog.underlying t = some (.slice e)) (h : DataW.trod enc Tryd.prog w 0 (fun _ => true) true n t [v] = some x) : ∃ ao l c, v = .slice ao l c := by
  rcases open_slice ht h with ⟨hcs, _⟩ | ⟨a, len', cap', m, n, D, Pl, hcs, hb, hl, hm, hmm, hx, hr⟩
  · cases hcs; exact ⟨_, _, _, rfl⟩
  · cases hcs; exact ⟨_, _, _, rfl⟩
set_option maxRecDepth 100000 in
theorem open_span {r : Reach} {b0 : Nat} {v : Value} {d : DataW H} {p : List MemPlace} (hv : Value.okWide Tryd.prog w r b0 39 v) (h : DataW.Trod enc Tryd.prog w 0 (fun _ => true) true 39 v d p) :
    ∃ frm slo sn sc b off ps spo spn spc ds, v = .agg #[.int .i64 frm, .slice slo sn sc, .slice spo spn spc] ∧ Sm.Pieces w b off ps ∧ ps.length = sn ∧ (0 < sn → slo = some ⟨b, off, none⟩) ∧ ds.length = spn ∧ (spo = none → spc = 0) ∧ spn ≤ spc ∧ Sm.PathV w spo ds := by
  obtain ⟨cs, rfl, hsz⟩ := okWide_struct Tryd.underlying39 hv
  obtain ⟨fuel, hf0⟩ := h
  have hf1 : DataW.trod enc Tryd.prog w 0 (fun _ => true) true fuel 39 cs.toList = some (d, p) := by simpa [Value.cells] using hf0
  obtain ⟨y0, y1, y2, m, hl, h0, h1, h2⟩ := struct3s Tryd.underlying39 hf1
  rw [cells39s] at hl
  obtain ⟨a, b, c, hcs⟩ := list3s hl
  rw [hcs] at h0 h1 h2
  simp only [cells3, cells37s, cells28s, List.drop_zero, List.drop_succ_cons, List.take_succ_cons, List.take_zero] at h0 h1 h2
  obtain ⟨z, e0, -⟩ := DataW.trod_int Tryd.underlying3 h0
  simp only [List.cons.injEq, and_true] at e0
  subst e0
  obtain ⟨slo, sn, sc, rfl⟩ := slice_of Tryd.underlying37 h1
  obtain ⟨spo, spn, spc, rfl⟩ := slice_of Tryd.underlying28 h2
  obtain ⟨pb, off, ps, p1, p2, p3, p4, p5⟩ := Sm.open_pieces (d := y1.1) (p := y1.2) ⟨m, h1⟩
  obtain ⟨ds, d1, d2, d3, d4, d5⟩ := Sm.open_digests (d := y2.1) (p := y2.2) ⟨m, h2⟩
  refine ⟨z, slo, sn, sc, pb, off, ps, spo, spn, spc, ds, ?_, p1, p2, p3, d2, d5, d3, d1⟩
  have : cs = #[.int .i64 z, .slice slo sn sc, .slice spo spn spc] := by
    rw [← Array.toList_inj, hcs]
  rw [this]
end
end Go.Proofs.YtecacjddggljgaaDoor
