/-
  The document's answer for a mem: its struct in memory, New, Clear; and what its writes come to.
-/
import Derived.Test.YtaamekkbgaeafaaDoorChnM
import Derived.Test.YtaamekkbgaeafaaDoorRefFo
import Derived.Test.YtaamekkbgaeafaaDoorRefBy
import Derived.Test.YtaamekkbgaeafaaDoorSRefOf
namespace Go.Proofs.YtaamekkbgaeafaaDoor
open Go.RowKit
set_option linter.unusedSectionVars false
set_option linter.unusedVariables false
variable [Inhabited E] [DecidableEq E]
/-- The document's mem by itself: all writes, in order. -/
structure Rf where
  l : List E
  last : Int
  ch : List UInt8
def Rf.mm (R : Rf) : Mm := ⟨foldS R.l, R.last, R.ch⟩
structure RfIn (own : Nat → Prop) (w : World) (g : Nat) (R : Rf) (v : Value) : Prop where
  og : own g
  cells : w.heap[g]? = some (.cells (memC v R.last R.ch) 44 (0, 0))
  row : w.ownsRow 0 29 4 v R.l.length (flatE R.l)
  rown : ∀ k, v.ownBlock = some k → own k
structure Rf.wf (R : Rf) (N : Nat) : Prop where
  chl : R.ch.length = 32
  len : R.l.length ≤ N
  up : R.l.Pairwise fun a b => a.seq < b.seq
  seqs : ∀ x ∈ R.l, x.seq ≤ R.last
def RfAt (own : Nat → Prop) (w : World) (g : Nat) (R : Rf) (N : Nat) : Prop := R.wf N ∧ ∃ v, RfIn own w g R v
section
variable {own : Nat → Prop} {w : World} {g N : Nat} {R : Rf} {v : Value}
theorem RfIn.keep (h : RfIn own w g R v) {w' : World} (hb : ∀ k, k < w.heap.size → own k → w'.heap[k]? = w.heap[k]?) : RfIn own w' g R v :=
  ⟨h.og, by rw [hb g (heap_lt h.cells) h.og]; exact h.cells, row_block h.row (fun k hk => hb k (h.row.lt k hk).2 (h.rown k hk)), h.rown⟩
theorem RfAt.keep (h : RfAt own w g R N) {w' : World} (hb : ∀ k, k < w.heap.size → own k → w'.heap[k]? = w.heap[k]?) : RfAt own w' g R N := by
  obtain ⟨h1, v, h2⟩ := h
  exact ⟨h1, v, h2.keep hb⟩
theorem RfAt.grown (h : RfAt own w g R N) {w' : World} (hb : Below w.heap.size w w') : RfAt own w' g R N := h.keep (fun k hk _ => hb.block k hk)
theorem RfAt.mono (h : RfAt own w g R N) {own' : Nat → Prop} {N' : Nat} (hs : ∀ k, k < w.heap.size → own k → own' k) (hN : N ≤ N') : RfAt own' w g R N' := by
  obtain ⟨h1, v, h2⟩ := h
  exact ⟨⟨h1.chl, Nat.le_trans h1.len hN, h1.up, h1.seqs⟩, v, ⟨hs g (heap_lt h2.cells) h2.og, h2.cells, h2.row, fun k hk => hs k (h2.row.lt k hk).2 (h2.rown k hk)⟩⟩
theorem RfAt.lt (h : RfAt own w g R N) : g < w.heap.size := by
  obtain ⟨h1, v, h2⟩ := h
  exact heap_lt h2.cells
theorem RfAt.now (h : RfAt own w g R N) : RfAt (here own w) w g R N := h.mono (fun _ hk e => ⟨e, hk⟩) (Nat.le_refl _)
theorem RfIn.c0 (h : RfIn own w g R v) : w.cell? ⟨g, 0, none⟩ = some v := by rw [cell_of_row _ _ _ _ _ _ h.cells]; rfl
theorem RfIn.c1 (h : RfIn own w g R v) : w.cell? ⟨g, 1, none⟩ = some (.int .i64 R.last) := by rw [cell_of_row _ _ _ _ _ _ h.cells]; rfl
theorem RfIn.sl (h : RfIn own w g R v) : ∃ ao c, v = .slice ao R.l.length c ∧ EntsV w ao R.l.length R.l ∧ (ao = none → c = 0) := own_sl h.row
end
theorem rf_chain {w : World} {g : Nat} {v : Value} {l : Int} {ch ch' : List UInt8} {ty : TypeId} (h : w.heap[g]? = some (.cells (memC v l ch) ty (0, 0))) (hl : ch.length = 32) (hl' : ch'.length = 32) :
    w.setCells g 2 (cellsOf ch') = w.setRow g (memC v l ch') := by
  rw [Sm.setCells_row g ty (cellsOf ch') 2 (v :: .int .i64 l :: cellsOf ch) w h (by simp [cellsOf_length, hl, hl'])]
  congr 1
  rw [memC, splice]
  congr 1
  have h1 : ((v :: .int .i64 l :: cellsOf ch) : List Value).take 2 = [v, .int .i64 l] := rfl
  have h2 : ((v :: .int .i64 l :: cellsOf ch) : List Value).drop (2 + (cellsOf ch').length) = [] := by
    apply List.drop_eq_nil_of_le
    simp [cellsOf_length, hl, hl']
  rw [h1, h2]
  simp
theorem rf_there {w : World} {g : Nat} {v : Value} {l : Int} {ch : List UInt8} {ty : TypeId} (h : w.heap[g]? = some (.cells (memC v l ch) ty (0, 0))) (hl : ch.length = 32) : w.there g 2 32 := fun j hj =>
  ⟨by rw [cell_of_row _ _ _ _ _ _ h, memC]; simp [cellsOf_length, hl]; omega, fz_of h _⟩
theorem rf_set0 {w : World} {g : Nat} {v u : Value} {l : Int} {ch : List UInt8} {ty : TypeId} (h : w.heap[g]? = some (.cells (memC v l ch) ty (0, 0))) : (w.setCell ⟨g, 0, none⟩ u).heap[g]? = some (.cells (memC u l ch) ty (0, 0)) := by
  rw [heap_set h]; simp [memC]
theorem rf_set1 {w : World} {g : Nat} {v : Value} {l l' : Int} {ch : List UInt8} {ty : TypeId} (h : w.heap[g]? = some (.cells (memC v l ch) ty (0, 0))) : (w.setCell ⟨g, 1, none⟩ (.int .i64 l')).heap[g]? = some (.cells (memC v l' ch) ty (0, 0)) := by
  rw [heap_set h]; simp [memC]
theorem rf_range {w : World} {g : Nat} {v : Value} {l : Int} {ch : List UInt8} {ty : TypeId} (h : w.heap[g]? = some (.cells (memC v l ch) ty (0, 0))) : w.rangeAt g 2 (cellsOf ch) := fun j u hu => by
  rw [cell_of_row _ _ _ _ _ _ h, memC, Nat.add_comm 2 j]
  simpa using hu
theorem strB_empty : strB ⟨#[]⟩ = [] := rfl
theorem refNone (w : World) : Calls Tryd.prog 30 #[.string ⟨#[]⟩] w fun e w' => e = .returned (.agg (cellsOf noneB).toArray) ∧ Below w.heap.size w w' := Sm.refOf_any ⟨#[]⟩ w (by decide)
theorem built44v (x0 x1 x2 x3 x4 x5 x6 x7 x8 x9 x10 x11 x12 x13 x14 x15 x16 x17 x18 x19 x20 x21 x22 x23 x24 x25 x26 x27 x28 x29 x30 x31 : UInt8) : Tryd.prog.built 44 [(2, .agg (cellsOf [x0, x1, x2, x3, x4, x5, x6, x7, x8, x9, x10, x11, x12, x13, x14, x15, x16, x17, x18, x19, x20, x21, x22, x23, x24, x25, x26, x27, x28, x29, x30, x31]).toArray)] = some (memC (.slice none 0 0) 0 [x0, x1, x2, x3, x4, x5, x6, x7, x8, x9, x10, x11, x12, x13, x14, x15, x16, x17, x18, x19, x20, x21, x22, x23, x24, x25, x26, x27, x28, x29, x30, x31]) := by kernel_rfl
theorem built44 : (d : List UInt8) → d.length = 32 → Tryd.prog.built 44 [(2, .agg (cellsOf d).toArray)] = some (memC (.slice none 0 0) 0 d)
  | [x0, x1, x2, x3, x4, x5, x6, x7, x8, x9, x10, x11, x12, x13, x14, x15, x16, x17, x18, x19, x20, x21, x22, x23, x24, x25, x26, x27, x28, x29, x30, x31], _ => built44v x0 x1 x2 x3 x4 x5 x6 x7 x8 x9 x10 x11 x12 x13 x14 x15 x16 x17 x18 x19 x20 x21 x22 x23 x24 x25 x26 x27 x28 x29 x30 x31
def rf0 : Rf := ⟨[], 0, noneB⟩
theorem rf0_wf : rf0.wf 0 := ⟨noneB_len, Nat.le_refl _, List.Pairwise.nil, (fun x hx => by cases hx)⟩
set_option maxRecDepth 100000 in
set_option maxHeartbeats 1000000 in
theorem refNew_any (w : World) :
    Calls Tryd.prog 11 #[] w fun e w' => ∃ g, e = .returned (.pointer (some ⟨g, 0, none⟩)) ∧ RfAt (fun k => w.heap.size ≤ k) w' g rf0 0 ∧ Below w.heap.size w w' := by
  obtain ⟨D, HD⟩ : ∃ D, Hid (D = (cellsOf noneB).toArray) := ⟨_, rfl⟩
  obtain ⟨CC, HCC⟩ : ∃ CC, Hid (CC = memC (.slice none 0 0) 0 noneB) := ⟨_, rfl⟩
  have HB : Hid (Tryd.prog.built 44 [(2, .agg D)] = some CC) := by show _ = _; rw [HD.out, HCC.out]; exact built44 noneB noneB_len
  go_enter Tryd.func11, Tryd.ntmps11
  go_wp2_with fail
  refine (refNone w).mono ?_
  rintro e w1 ⟨rfl, hb1⟩
  rw [← HD.out]
  go_wp2_with (refine Sm.wpList_build_to rfl 44 #[(2, .tmp 1)] rfl CC ?hf ?_)
  case hf => exact (by simp : Tryd.prog.built 44 _ = Tryd.prog.built 44 [(2, .agg D)]).trans HB.out
  go_ret
  refine ⟨_, rfl, ⟨rf0_wf, .slice none 0 0, hb1.size, ?_, ⟨rfl, .inl ⟨rfl, rfl⟩⟩, fun k hk => by cases hk⟩, hb1.alloc hb1.size _⟩
  rw [HCC.out]
  exact heap_alloc_new _ _
set_option maxRecDepth 100000 in
set_option maxHeartbeats 1000000 in
theorem refClear_any (own : Nat → Prop) (g N : Nat) (R : Rf) (w : World) (h : RfAt own w g R N) :
    Calls Tryd.prog 16 #[.pointer (some ⟨g, 0, none⟩)] w fun e w' => e = .returned (.tuple #[]) ∧ RfAt own w' g ⟨[], R.last, noneB⟩ N ∧ Only own w w' := by
  obtain ⟨D, HD⟩ : ∃ D, Hid (D = (cellsOf noneB).toArray) := ⟨_, rfl⟩
  have hDs : D.size = 32 := by rw [HD.out, List.size_toArray, cellsOf_length, noneB_len]
  have hD1 : D.all (·.oneCell') = true := by rw [HD.out]; exact dig_one _
  obtain ⟨wf, v, hM⟩ := h
  obtain ⟨ao, c, rfl, -⟩ := hM.sl
  have c0 := hM.c0
  have f0 := fz_of hM.cells 0
  have hc := rf_set0 (u := .slice none 0 0) hM.cells
  have ho : Only own w (w.setCell ⟨g, 0, none⟩ (.slice none 0 0)) := (Only.refl own w).setCell (.inl hM.og) _
  have hog := hM.og
  clear hM
  go_enter Tryd.func16, Tryd.ntmps16
  go_wp2_with fail
  refine (refNone _).mono ?_
  rintro e w1 ⟨rfl, hb1⟩
  rw [← HD.out]
  have hc1 := (hb1.block g (heap_lt hc)).trans hc
  have ho1 : Only own w w1 := ho.trans (Only.of_below (own := own) hb1) (fun _ e => .inl e)
  have HT : Hid (w1.there g 2 D.size) := by show World.there _ _ _ _; rw [hDs]; exact rf_there hc1 wf.chl
  clear hb1 ho hc c0 f0
  go_wp2_with (refine wpList_store_mid rfl 42 (.tmp 8) (.tmp 6) rfl g 2 D rfl rfl HT.out ?hsz hD1 ?_)
  case hsz => rw [size42, hDs]
  rw [HD.out, rf_chain hc1 wf.chl noneB_len]
  go_end0
  refine ⟨rfl, ⟨⟨noneB_len, Nat.zero_le _, List.Pairwise.nil, (fun x hx => by cases hx)⟩, .slice none 0 0, hog, setRow_heap _ _ _ _ _ _ hc1, ⟨rfl, .inl ⟨rfl, rfl⟩⟩, fun k hk => by cases hk⟩, ho1.setRow (.inl hog) _⟩
end Go.Proofs.YtaamekkbgaeafaaDoor
