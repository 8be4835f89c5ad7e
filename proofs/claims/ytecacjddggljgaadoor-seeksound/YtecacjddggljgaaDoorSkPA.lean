/-
  Arguments that are points, opened.
-/
import Derived.Test.YtecacjddggljgaaDoorPartAH
import Derived.Test.YtecacjddggljgaaDoorPartDH
import Derived.Test.YtecacjddggljgaaDoorSDigsIp
namespace Go.Proofs.YtecacjddggljgaaDoor
open Go.ChangeShapes Go.WideShapes Go.ChangeAt Go.RowKit Go.Joins Go.Deep
set_option linter.unusedSectionVars false
variable [Inhabited E]
theorem cells30a : Tryd.prog.cellsOf 30 = 3 := by kernel_rfl
theorem cells32a : Tryd.prog.cellsOf 32 = 7 := by kernel_rfl
theorem cells27a : Tryd.prog.cellsOf 27 = 1 := by kernel_rfl
theorem cells28a : Tryd.prog.cellsOf 28 = 1 := by kernel_rfl
theorem list3a {cs : List Value} (h : cs.length = 3) : ∃ a b c, cs = [a, b, c] := by
  match cs, h with
  | [a, b, c], _ => exact ⟨a, b, c, rfl⟩
theorem list7a {cs : List Value} (h : cs.length = 7) : ∃ a b c d e f g, cs = [a, b, c, d, e, f, g] := by
  match cs, h with
  | [a, b, c, d, e, f, g], _ => exact ⟨a, b, c, d, e, f, g, rfl⟩
theorem struct3a {H : Type} {enc : TypeId × Value → H} {w : World} {P : Program} {t : TypeId} {f0 f1 f2 : Field} {fuel : Nat} {cs : List Value} {x : DataW H × List MemPlace} (ht : P.underlying t = some (.struct #[f0, f1, f2])) (h : DataW.trod enc P w 0 (fun _ => true) true fuel t cs = some x) :
    ∃ y0 y1 y2 n, cs.length = P.cellsOf t ∧ DataW.trod enc P w 0 (fun _ => true) true n f0.type ((cs.drop f0.offset).take (P.cellsOf f0.type)) = some y0 ∧ DataW.trod enc P w 0 (fun _ => true) true n f1.type ((cs.drop f1.offset).take (P.cellsOf f1.type)) = some y1 ∧ DataW.trod enc P w 0 (fun _ => true) true n f2.type ((cs.drop f2.offset).take (P.cellsOf f2.type)) = some y2 := by
  obtain ⟨xs, n, _, rfl, hl, hlen, hf⟩ := DataW.trod_struct ht h
  match xs, hlen with
  | [y0, y1, y2], _ => exact ⟨y0, y1, y2, n, hl, hf 0 f0 rfl, hf 1 f1 rfl, hf 2 f2 rfl⟩
section
variable {H : Type} {enc : TypeId × Value → H} {w : World}
theorem cells_bytes {n : Nat} {v : Value} {x : DataW H × List MemPlace} (h : DataW.trod enc Tryd.prog w 0 (fun _ => true) true n 27 [v] = some x) :
    ∃ ao l c bs, v = .slice ao l c ∧ Bytes w ao l bs ∧ (ao = none → c = 0) ∧ l ≤ c ∧ c ≤ 9223372036854775807 := by
  rcases open_ints Tryd.underlying27 Tryd.underlying5 cells5 h with ⟨hcs, _⟩ | ⟨y, l, c, zs, hcs, _, hl, hm, hz, _, hcell, hwz⟩
  · cases hcs
    obtain ⟨bs, h1, h2, h3, h4⟩ := row_bytes (w := w) (a := none) (len := 0) (cap := 0) (zs := []) (.inl ⟨rfl, rfl, rfl, rfl⟩)
    exact ⟨none, 0, 0, bs, rfl, h1, h2, h3, h4⟩
  · cases hcs
    obtain ⟨bs, h1, h2, h3, h4⟩ := row_bytes (w := w) (a := some y) (len := l) (cap := c) (zs := zs) (.inr ⟨_, rfl, hl, hm, by simpa using hz, hcell, hwz⟩)
    exact ⟨some y, l, c, bs, rfl, h1, h2, h3, h4⟩
theorem cells_digs {n : Nat} {v : Value} {x : DataW H × List MemPlace} (h : DataW.trod enc Tryd.prog w 0 (fun _ => true) true n 28 [v] = some x) :
    ∃ ao l c ds, v = .slice ao l c ∧ Sm.PathV w ao ds ∧ ds.length = l ∧ l ≤ c ∧ c ≤ 9223372036854775807 ∧ (ao = none → c = 0) := by
  have hv : ∃ ao l c, v = .slice ao l c := by
    rcases open_slice Tryd.underlying28 h with ⟨hcs, _⟩ | ⟨a, len', cap', m, n, D, Pl, hcs, hb, hl, hm, hmm, hx, hr⟩
    · cases hcs; exact ⟨_, _, _, rfl⟩
    · cases hcs; exact ⟨_, _, _, rfl⟩
  obtain ⟨ao, l, c, rfl⟩ := hv
  obtain ⟨ds, h1, h2, h3, h4, h5⟩ := Sm.open_digests (d := x.1) (p := x.2) ⟨n, h⟩
  exact ⟨ao, l, c, ds, rfl, h1, h2, h3, h4, h5⟩
set_option maxRecDepth 100000 in
theorem cells_opn {n : Nat} {cs : List Value} {x : DataW H × List MemPlace} (h : DataW.trod enc Tryd.prog w 0 (fun _ => true) true n 30 cs = some x) :
    ∃ o : Opn, cs = o.cells.toList ∧ OpnA w o := by
  obtain ⟨y0, y1, y2, m, hl, h0, h1, h2⟩ := struct3a Tryd.underlying30 h
  rw [cells30a] at hl
  obtain ⟨a, b, c, rfl⟩ := list3a hl
  · simp only [cells3, cells27a, cells28a, List.drop_zero, List.drop_succ_cons, List.take_succ_cons, List.take_zero] at h0 h1 h2
    obtain ⟨z, e0, -⟩ := DataW.trod_int Tryd.underlying3 h0
    obtain ⟨lo, ln, lc, bs, rfl, b1, b2, b3, b4⟩ := cells_bytes h1
    obtain ⟨po, pn, pc, ds, rfl, d1, d2, d3, d4, d5⟩ := cells_digs h2
    simp only [List.cons.injEq, and_true] at e0
    subst e0
    exact ⟨⟨z, lo, ln, lc, bs, po, pn, pc, ds⟩, rfl, ⟨b1, b2, b3, b4, d2, d5, d3, d4, d1⟩⟩
set_option maxRecDepth 100000 in
theorem open_point {r : Reach} {b0 : Nat} {v : Value} {d : DataW H} {p : List MemPlace} (hv : Value.okWide Tryd.prog w r b0 32 v) (h : DataW.Trod enc Tryd.prog w 0 (fun _ => true) true 32 v d p) :
    ∃ bt A B, v = .agg (pointC bt A B) ∧ OpnA w A ∧ OpnA w B := by
  obtain ⟨cs, rfl, hsz⟩ := okWide_struct Tryd.underlying32 hv
  obtain ⟨fuel, hf0⟩ := h
  have hf1 : DataW.trod enc Tryd.prog w 0 (fun _ => true) true fuel 32 cs.toList = some (d, p) := by simpa [Value.cells] using hf0
  obtain ⟨y0, y1, y2, m, hl, h0, h1, h2⟩ := struct3a Tryd.underlying32 hf1
  rw [cells32a] at hl
  obtain ⟨a, b, c, e, f, g, i, hcs⟩ := list7a hl
  rw [hcs] at h0 h1 h2
  · simp only [cells4, cells30a, List.drop_zero, List.drop_succ_cons, List.take_succ_cons, List.take_zero] at h0 h1 h2
    obtain ⟨z, e0, -⟩ := DataW.trod_bool Tryd.underlying4 h0
    obtain ⟨A, e1, hA⟩ := cells_opn h1
    obtain ⟨B, e2, hB⟩ := cells_opn h2
    refine ⟨z, A, B, ?_, hA, hB⟩
    simp only [Opn.cells, List.cons.injEq, and_true] at e0 e1 e2
    obtain ⟨rfl, rfl, rfl⟩ := e1
    obtain ⟨rfl, rfl, rfl⟩ := e2
    subst e0
    have : cs = pointC z A B := by
      rw [← Array.toList_inj, hcs]; rfl
    rw [this]
end
end Go.Proofs.YtecacjddggljgaaDoor
