/-
  A mem and the document's mem beside one another; a row of steps that came in.
-/
import Derived.Test.YtaamekkbgaeafaaDoorRfP
import Derived.Test.YtaamekkbgaeafaaDoorRfG
import Derived.Test.YtaamekkbgaeafaaDoorPartG
namespace Go.Proofs.YtaamekkbgaeafaaDoor
open Go.ChangeShapes Go.WideShapes Go.ChangeAt Go.RowKit Go.Joins Go.Deep
set_option linter.unusedSectionVars false
set_option linter.unusedVariables false
variable [Inhabited E] [DecidableEq E]
structure Pl (B : Nat) (w : World) (gm gr N : Nat) (R : Rf) (om oR : Nat → Prop) : Prop where
  mm : MemAt om w gm R.mm
  rf : RfAt oR w gr R N
  lm : ∀ k, om k → B ≤ k ∧ k < w.heap.size
  lr : ∀ k, oR k → B ≤ k ∧ k < w.heap.size
  ap : ∀ k, om k → ¬ oR k
theorem Pl.below {B gm gr N : Nat} {w w' : World} {R : Rf} {om oR : Nat → Prop} (h : Pl B w gm gr N R om oR) (hb : Below w.heap.size w w') : Pl B w' gm gr N R om oR :=
  ⟨h.mm.grown hb, h.rf.grown hb, fun k hk => ⟨(h.lm k hk).1, Nat.lt_of_lt_of_le (h.lm k hk).2 hb.size⟩, fun k hk => ⟨(h.lr k hk).1, Nat.lt_of_lt_of_le (h.lr k hk).2 hb.size⟩, h.ap⟩
/-- A step of the mem, then one of the document's. -/
theorem Pl.both {B gm gr N N' : Nat} {w w1 w2 : World} {R R' : Rf} {om oR : Nat → Prop} (h : Pl B w gm gr N R om oR) (hm : MemAt (grow om w) w1 gm R'.mm) (ho : Only om w w1) (hr : RfAt (grow oR w1) w2 gr R' N') (ho2 : Only oR w1 w2) (hB : B ≤ w.heap.size) :
    ∃ om' oR', Pl B w2 gm gr N' R' om' oR' ∧ Below B w w2 ∧ (∀ k, k < w.heap.size → ¬ om k → ¬ oR k → ¬ om' k ∧ ¬ oR' k ∧ w2.heap[k]? = w.heap[k]?) := by
  have hs1 := ho.size
  have hs2 := ho2.size
  have hnr : ∀ k, here (grow om w) w1 k → ¬ oR k := fun k hk e => by
    rcases hk.1 with q | q
    · exact h.ap k q e
    · have := (h.lr k e).2; omega
  refine ⟨here (grow om w) w1, here (grow oR w1) w2, ⟨(hm.now).keep (fun k hk e => ho2.block k hk (fun e2 => hnr k e e2)), hr.now, fun k hk => ⟨?_, Nat.lt_of_lt_of_le hk.2 hs2⟩, fun k hk => ⟨?_, hk.2⟩, fun k hk hk2 => ?_⟩, ?_, fun k hk hn1 hn2 => ⟨fun e => ?_, fun e => ?_, ?_⟩⟩
  · rcases hk.1 with q | q
    · exact (h.lm k q).1
    · omega
  · rcases hk.1 with q | q
    · exact (h.lr k q).1
    · omega
  · rcases hk2.1 with q | q
    · exact hnr k hk q
    · have := hk.2; omega
  · exact (ho.below (fun k hk => (h.lm k hk).1) hB).trans (ho2.below (fun k hk => (h.lr k hk).1) (by omega))
  · rcases e.1 with q | q
    · exact hn1 q
    · omega
  · rcases e.1 with q | q
    · exact hn2 q
    · omega
  · rw [ho2.block k (by omega) hn2, ho.block k hk hn1]
/-- A step, raw. -/
structure Om where
  kind : Int
  e : E
  lo : ByteArray
  hi : ByteArray
def encO (o : Om) : List Value := .int .i64 o.kind :: (encE o.e ++ [.string o.lo, .string o.hi])
def OmOk (o : Om) : Prop := o.e.key.size ≤ 9223372036854775807 ∧ o.e.value.size ≤ 9223372036854775807 ∧ o.lo.size ≤ 9223372036854775807 ∧ o.hi.size ≤ 9223372036854775807
def OpsV (w : World) (ao : Option Addr) (n : Nat) (f : Nat → Om) : Prop := ∀ i, i < n → ∃ b off, ao = some ⟨b, off, none⟩ ∧ OmOk (f i) ∧ ∀ c u, (encO (f i))[c]? = some u → w.cell? ⟨b, off + i * 7 + c, none⟩ = some u
theorem OpsV.below {w w' : World} {ao : Option Addr} {n : Nat} {f : Nat → Om} (h : OpsV w ao n f) (hb : Below w.heap.size w w') : OpsV w' ao n f := fun i hi => by
  obtain ⟨b, off, h1, h2, h3⟩ := h i hi
  exact ⟨b, off, h1, h2, fun c u hu => bel_cell hb (Nat.le_refl _) (h3 c u hu)⟩
theorem cells31 : Tryd.prog.cellsOf 31 = 7 := by kernel_rfl
theorem cells29 : Tryd.prog.cellsOf 29 = 4 := by kernel_rfl
theorem list7 {cs : List Value} (h : cs.length = 7) : ∃ a b c d e f g, cs = [a, b, c, d, e, f, g] := by
  match cs, h with
  | [a, b, c, d, e, f, g], _ => exact ⟨a, b, c, d, e, f, g, rfl⟩
section
variable {H : Type} {enc : TypeId × Value → H} {w : World} {base : Nat} {spare : Nat → Bool} {held : Bool}
theorem cells_op {n : Nat} {cs : List Value} {x : DataW H × List MemPlace} (h : DataW.trod enc Tryd.prog w base spare held n 31 cs = some x) : ∃ o : Om, cs = encO o ∧ OmOk o := by
  obtain ⟨y0, y1, y2, y3, m, _, hl, h0, h1, h2, h3⟩ := trod_struct4 Tryd.underlying31 h
  rw [cells31] at hl
  obtain ⟨a, b, c, d, e, f, g, rfl⟩ := list7 hl
  simp only [cells9, cells29, cells3, List.drop_zero, List.drop_succ_cons, List.take_succ_cons, List.take_zero] at h0 h1 h2 h3
  obtain ⟨n0, e0, _, _⟩ := DataW.trod_int Tryd.underlying3 h0
  obtain ⟨en, e1, z1, z2, _⟩ := cells_entry h1
  obtain ⟨s2, e2, _, z3⟩ := DataW.trod_string Tryd.underlying9 h2
  obtain ⟨s3, e3, _, z4⟩ := DataW.trod_string Tryd.underlying9 h3
  simp only [List.cons.injEq, and_true] at e0 e2 e3
  subst e0 e2 e3
  unfold maxLen at z3 z4
  refine ⟨⟨n0, en, s2, s3⟩, ?_, z1, z2, by simpa using z3, by simpa using z4⟩
  rw [encO, ← e1]
  rfl
set_option maxRecDepth 100000 in
theorem open_mops {r : Reach} {b0 : Nat} {v : Value} {d : DataW H} {p : List MemPlace} (hv : Value.okWide Tryd.prog w r b0 22 v) (h : DataW.Trod enc Tryd.prog w base spare held 22 v d p) :
    ∃ ao n c os, v = .slice ao n c ∧ OpsV w ao n os ∧ True ∧ n ≤ c ∧ c ≤ 9223372036854775807 := by
  obtain ⟨a0, len0, cap0, rfl⟩ := okWide_slice Tryd.underlying22 hv
  obtain ⟨fuel, hf⟩ := h
  rcases open_slice Tryd.underlying22 hf with ⟨hcs, _⟩ | ⟨a, len, cap, m, n, D, Pl, hcs, _, hl, hm, hmm, _, hel⟩
  · simp [Value.cells] at hcs
    obtain ⟨rfl, rfl, rfl⟩ := hcs
    exact ⟨none, 0, 0, fun _ => ⟨0, default, ⟨#[]⟩, ⟨#[]⟩⟩, rfl, fun i hi => absurd hi (Nat.not_lt_zero _), True.intro, Nat.le_refl _, by omega⟩
  · simp [Value.cells] at hcs
    obtain ⟨rfl, rfl, rfl⟩ := hcs
    have hlm : len0 ≤ m := by rw [hmm]; split <;> omega
    have hel2 : ∀ i, i < len0 → ∃ o : Om, w.cells? base (a.add (i * 7)) 7 = some (encO o) ∧ OmOk o := by
      intro i hi
      obtain ⟨cs', h1, h2⟩ := hel i (by omega)
      rw [cells31] at h1
      obtain ⟨o, rfl, z⟩ := cells_op h2
      exact ⟨o, h1, z⟩
    haveI : Inhabited Om := ⟨⟨0, default, ⟨#[]⟩, ⟨#[]⟩⟩⟩
    obtain ⟨f, hf2⟩ := choose_lt hel2
    refine ⟨some a, len0, cap0, f, rfl, fun i hi => ?_, True.intro, hl, by unfold maxLen at hm; omega⟩
    obtain ⟨b, off, spot⟩ := a
    have hspot : spot = none := by
      have := (World.cells?_some (hf2 0 (by omega)).1).2.2 0 (by omega)
      have h3 : (encO (f 0))[0]? = some (.int .i64 (f 0).kind) := rfl
      rw [h3] at this
      simpa [Addr.add] using World.cell?_spot this
    subst hspot
    refine ⟨b, off, rfl, (hf2 i hi).2, fun c u hu => ?_⟩
    have hc : c < 7 := by
      have := (List.getElem?_eq_some_iff.1 hu).1
      simpa [encO, encE] using this
    have := (World.cells?_some (hf2 i hi).1).2.2 c hc
    rw [hu, Addr.add_lit, Addr.add_lit] at this
    exact this
end
end Go.Proofs.YtaamekkbgaeafaaDoor
