/-
  Rows of steps (Op) that came in. No walk.
-/
import Derived.Test.YtomeghngjiaofaaArgsU
namespace Go.Proofs.Ytomeghngjiaofaa
open Go.ChangeShapes Go.WideShapes Go.ChangeAt Go.RowKit Go.Joins Go.Deep
structure OpV where
  kd : Int
  nn : Int
  mm : Int
  nm : ByteArray
  dst : ByteArray
  bo : Option Addr
  bn : Nat
  bc : Nat
  bs : List UInt8
def opC (o : OpV) : List Value := [.int .i64 o.kd, .int .i64 o.nn, .int .i64 o.mm, .string o.nm, .string o.dst, .slice o.bo o.bn o.bc]
def OpV.fine (o : OpV) : Prop := (-9223372036854775808 ≤ o.kd ∧ o.kd ≤ 9223372036854775807) ∧ (-9223372036854775808 ≤ o.nn ∧ o.nn ≤ 9223372036854775807) ∧ (-9223372036854775808 ≤ o.mm ∧ o.mm ≤ 9223372036854775807) ∧ o.nm.size ≤ maxLen ∧ o.dst.size ≤ maxLen ∧ o.bn ≤ o.bc ∧ o.bc ≤ 9223372036854775807
def OpsAt (w : World) (b off : Nat) (l : List OpV) : Prop := ∀ i o, l[i]? = some o → (∀ j u, (opC o)[j]? = some u → w.cell? ⟨b, off + i * 6 + j, none⟩ = some u) ∧ Bytes w o.bo o.bn o.bs ∧ o.fine
theorem cells30 : Try.prog.cellsOf 30 = 6 := by kernel_rfl
theorem cells9 : Try.prog.cellsOf 9 = 1 := by kernel_rfl
theorem cells3' : Try.prog.cellsOf 3 = 1 := by kernel_rfl
theorem list6 {cs : List Value} (h : cs.length = 6) : ∃ a b c d e f, cs = [a, b, c, d, e, f] := by
  match cs, h with
  | [a, b, c, d, e, f], _ => exact ⟨a, b, c, d, e, f, rfl⟩
section
variable {H : Type} {enc : TypeId × Value → H} {w : World} {base : Nat} {held : Bool}
theorem trod_struct6 {P : Program} {spare : Nat → Bool} {t : TypeId} {f0 f1 f2 f3 f4 f5 : Field} {fuel : Nat} {cs : List Value} {x : DataW H × List MemPlace} (ht : P.underlying t = some (.struct #[f0, f1, f2, f3, f4, f5])) (h : DataW.trod enc P w base spare held fuel t cs = some x) :
    ∃ y0 y1 y2 y3 y4 y5 n, x.1 = .agg [y0.1, y1.1, y2.1, y3.1, y4.1, y5.1] ∧ cs.length = P.cellsOf t ∧ DataW.trod enc P w base spare held n f0.type ((cs.drop f0.offset).take (P.cellsOf f0.type)) = some y0 ∧
      DataW.trod enc P w base spare held n f1.type ((cs.drop f1.offset).take (P.cellsOf f1.type)) = some y1 ∧ DataW.trod enc P w base spare held n f2.type ((cs.drop f2.offset).take (P.cellsOf f2.type)) = some y2 ∧
      DataW.trod enc P w base spare held n f3.type ((cs.drop f3.offset).take (P.cellsOf f3.type)) = some y3 ∧ DataW.trod enc P w base spare held n f4.type ((cs.drop f4.offset).take (P.cellsOf f4.type)) = some y4 ∧
      DataW.trod enc P w base spare held n f5.type ((cs.drop f5.offset).take (P.cellsOf f5.type)) = some y5 := by
  obtain ⟨xs, n, _, rfl, hl, hlen, hf⟩ := DataW.trod_struct ht h
  match xs, hlen with
  | [y0, y1, y2, y3, y4, y5], _ => exact ⟨y0, y1, y2, y3, y4, y5, n, by simp, hl, by simpa using hf 0 f0 rfl, by simpa using hf 1 f1 rfl, by simpa using hf 2 f2 rfl, by simpa using hf 3 f3 rfl, by simpa using hf 4 f4 rfl, by simpa using hf 5 f5 rfl⟩
/-- One cell that reads as bytes. -/
theorem cell_bytes {n : Nat} {u : Value} {y : DataW H × List MemPlace} (hf : DataW.trod enc Try.prog w base (fun _ => true) held n 28 [u] = some y) : ∃ ao bn bc bs, u = .slice ao bn bc ∧ Bytes w ao bn bs ∧ bn ≤ bc ∧ bc ≤ 9223372036854775807 ∧ bn ≤ Rows.uptoBulk y.1 := by
  rcases open_ints Try.underlying28 Try.underlying5 cells5 hf with ⟨hcs, _⟩ | ⟨x, l, c, zs, hcs, _, hl, hm, hz, hx, hcell, hwz⟩
  · simp only [List.cons.injEq, and_true] at hcs
    subst hcs
    exact ⟨none, 0, 0, [], rfl, bytes_nil _, Nat.le_refl _, by omega, Nat.zero_le _⟩
  · simp only [List.cons.injEq, and_true] at hcs
    subst hcs
    have hz' : zs.length = c := by simpa using hz
    have hr : ((some x : Option Addr) = none ∧ l = 0 ∧ c = 0 ∧ zs = []) ∨ ∃ x', some x = some x' ∧ l ≤ c ∧ c ≤ maxLen ∧ zs.length = c ∧ (∀ i, i < zs.length → w.cell? (x'.add i) = some (.int .u8 (zs.getD i 0))) ∧ ∀ n ∈ zs, (Lit.int .u8 n).wf = true := .inr ⟨x, rfl, hl, hm, hz', hcell, hwz⟩
    obtain ⟨bs, h1, h2, h3, h4⟩ := row_bytes hr
    refine ⟨some x, l, c, bs, rfl, h1, h3, h4, ?_⟩
    rw [hx]
    simp only [Rows.uptoBulk, bulk_lits, List.length_take]
    omega
/-- The six cells that read as a step. -/
theorem cells_op {n : Nat} {cs : List Value} {x : DataW H × List MemPlace} (h : DataW.trod enc Try.prog w base (fun _ => true) held n 30 cs = some x) :
    ∃ o : OpV, cs = opC o ∧ Bytes w o.bo o.bn o.bs ∧ o.fine ∧ o.bn ≤ Rows.uptoBulk x.1 := by
  obtain ⟨y0, y1, y2, y3, y4, y5, m, hx, hl, h0, h1, h2, h3, h4, h5⟩ := trod_struct6 Try.underlying30 h
  rw [cells30] at hl
  obtain ⟨a, b, c, d, e, f, rfl⟩ := list6 hl
  simp only [cells9, cells3', cells28, List.drop_zero, List.drop_succ_cons, List.take_succ_cons, List.take_zero] at h0 h1 h2 h3 h4 h5
  obtain ⟨n0, e0, _, z0⟩ := DataW.trod_int Try.underlying3 h0
  obtain ⟨n1, e1, _, z1⟩ := DataW.trod_int Try.underlying3 h1
  obtain ⟨n2, e2, _, z2⟩ := DataW.trod_int Try.underlying3 h2
  obtain ⟨s3, e3, _, z3⟩ := DataW.trod_string Try.underlying9 h3
  obtain ⟨s4, e4, _, z4⟩ := DataW.trod_string Try.underlying9 h4
  obtain ⟨bo, bn, bc, bs, e5, hb, hl5, hc5, hu⟩ := cell_bytes h5
  simp only [List.cons.injEq, and_true] at e0 e1 e2 e3 e4
  subst e0 e1 e2 e3 e4 e5
  refine ⟨⟨n0, n1, n2, s3, s4, bo, bn, bc, bs⟩, rfl, hb, ⟨bounds_i64 z0, bounds_i64 z1, bounds_i64 z2, by simpa using z3, by simpa using z4, hl5, hc5⟩, ?_⟩
  rw [hx]
  simp only [Rows.uptoBulk, Rows.uptoBulkAll]
  omega
end
theorem bulk_sum' {H : Type} (l : List Nat) (f : Nat → Nat) (G : Nat → DataW H) (h : ∀ r ∈ l, f r ≤ Rows.uptoBulk (G r)) : (l.map f).sum ≤ Rows.uptoBulkAll (l.map G) := by
  induction l with
  | nil => exact Nat.zero_le _
  | cons a l ih =>
    have h1 := h a List.mem_cons_self
    have h2 := ih (fun r hr => h r (List.mem_cons_of_mem _ hr))
    simp only [List.map_cons, List.sum_cons, Rows.uptoBulkAll]
    omega
set_option maxRecDepth 100000 in
theorem open_opsU {H : Type} {enc : TypeId × Value → H} {W : World} {a0 : Option Addr} {len cap : Nat} {d : DataW H} {p : List MemPlace}
    (hd : DataW.Trod enc Try.prog W 0 (fun _ => true) true 22 (.slice a0 len cap) d p) :
    ∃ (b off : Nat) (os : List OpV), OpsAt W b off os ∧ os.length = len ∧ (0 < len → a0 = some ⟨b, off, none⟩) ∧ len ≤ cap ∧ cap ≤ 9223372036854775807 ∧ (os.map fun o => o.bn).sum ≤ Rows.uptoBulk d := by
  obtain ⟨fuel, hf⟩ := hd
  rcases open_slice Try.underlying22 hf with ⟨hcs, _⟩ | ⟨a, len', cap', m, n, D, Pl, hcs, _, hl, hm, hmm, hx, hel⟩
  · simp [Value.cells] at hcs
    obtain ⟨rfl, rfl, rfl⟩ := hcs
    exact ⟨0, 0, [], fun i o ho => by simp at ho, rfl, fun h => by omega, Nat.le_refl _, by omega, Nat.zero_le _⟩
  · simp [Value.cells] at hcs
    obtain ⟨rfl, rfl, rfl⟩ := hcs
    have hmc : m = cap := by simpa using hmm
    subst hmc
    haveI : Inhabited OpV := ⟨⟨0, 0, 0, ⟨#[]⟩, ⟨#[]⟩, none, 0, 0, []⟩⟩
    have hel2 : ∀ i, i < len → ∃ o : OpV, W.cells? 0 (a.add (i * 6)) 6 = some (opC o) ∧ Bytes W o.bo o.bn o.bs ∧ o.fine ∧ o.bn ≤ Rows.uptoBulk (D i) := by
      intro i hi
      obtain ⟨cs', h1, h2⟩ := hel i (by omega)
      rw [cells30] at h1
      obtain ⟨o, rfl, z0, z1, z2⟩ := cells_op h2
      exact ⟨o, h1, z0, z1, z2⟩
    obtain ⟨f, hf2⟩ := choose_lt hel2
    have hxd : d = .slice ((List.range len).map D) ((List.range (m - len)).map fun j => D (len + j)) := congrArg Prod.fst hx
    obtain ⟨b, off, spot⟩ := a
    have hspot : 0 < len → spot = none := fun hp => by
      have := (World.cells?_some (hf2 0 hp).1).2.2 0 (by omega)
      have h3 : (opC (f 0))[0]? = some (.int .i64 (f 0).kd) := rfl
      rw [h3] at this
      simpa [Addr.add] using World.cell?_spot this
    refine ⟨b, off, (List.range len).map f, fun i o ho => ?_, by simp, fun h => by rw [hspot h], hl, by unfold maxLen at hm; omega, ?_⟩
    · simp only [List.getElem?_map, Option.map_eq_some_iff] at ho
      obtain ⟨r, hri, rfl⟩ := ho
      obtain ⟨hlt, hrr⟩ := List.getElem?_eq_some_iff.1 hri
      simp at hlt hrr
      subst hrr
      have hs := hspot (by omega)
      subst hs
      refine ⟨fun j u hu => ?_, (hf2 i hlt).2.1, (hf2 i hlt).2.2.1⟩
      have hj : j < 6 := (List.getElem?_eq_some_iff.1 hu).1
      have := (World.cells?_some (hf2 i hlt).1).2.2 j hj
      rw [hu, Addr.add_lit, Addr.add_lit] at this
      exact this
    · rw [hxd, List.map_map]
      have h9 := bulk_sum' (H := H) (List.range len) (fun r => (f r).bn) D (fun r hr' => (hf2 r (List.mem_range.1 hr')).2.2.2)
      simp only [Rows.uptoBulk]
      exact Nat.le_trans h9 (by omega)
end Go.Proofs.Ytomeghngjiaofaa
