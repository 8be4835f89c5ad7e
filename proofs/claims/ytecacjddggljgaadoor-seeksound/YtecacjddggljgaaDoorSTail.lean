/-
  '[]byte(s)' and what is appended to it, byte by byte. No walk.
-/
import Derived.Test.YtecacjddggljgaaDoorSRefTurned
import Derived.Lib.FrozenHead2
import Derived.Lib.ConvBytes
namespace Go.Proofs.YtecacjddggljgaaDoor.Sm
open Go.RowKit
/-- A row of bytes that the call owns; behind its last place there may be a mark. -/
def OwnT (w : World) (base : Nat) (v : Value) (bs : List UInt8) : Prop :=
  ∃ g cap cur fz, v = .slice (some ⟨g, 0, none⟩) bs.length cap ∧ base ≤ g ∧ w.heap[g]? = some (.cells cur 5 fz) ∧ (cap ≤ fz.1 ∨ fz.2 = 0) ∧ bs.length ≤ cap ∧ cap ≤ maxLen ∧ cur.size = cap ∧ cur.toList.take bs.length = cellsOf bs
theorem OwnT.below {w w' : World} {B base : Nat} {v : Value} {bs : List UInt8} (h : OwnT w base v bs) (hb : Below B w w') (hB : w.heap.size ≤ B) : OwnT w' base v bs := by
  obtain ⟨g, cap, cur, fz, h1, h2, h3, r⟩ := h
  exact ⟨g, cap, cur, fz, h1, h2, by rw [hb.block g (Nat.lt_of_lt_of_le (Array.getElem?_eq_some_iff.1 h3).1 hB)]; exact h3, r⟩
theorem OwnT.bytes {w : World} {base : Nat} {v : Value} {bs : List UInt8} (h : OwnT w base v bs) : ∃ g cap, v = .slice (some ⟨g, 0, none⟩) bs.length cap ∧ base ≤ g ∧ g < w.heap.size ∧ bs.length ≤ cap ∧ cap ≤ 9223372036854775807 ∧ Bytes w (some ⟨g, 0, none⟩) bs.length bs := by
  obtain ⟨g, cap, cur, fz, h1, h2, h3, _, h5, h6, h7, h8⟩ := h
  refine ⟨g, cap, h1, h2, (Array.getElem?_eq_some_iff.1 h3).1, h5, by unfold maxLen at h6; exact h6, rfl, fun i c hi => ⟨_, rfl, ?_⟩⟩
  rw [Addr.add_lit, Nat.zero_add, cell_of_row w g i _ 5 fz h3]
  have h9 : (cellsOf bs)[i]? = some (.int .u8 c.toNat) := by simp [cellsOf, hi]
  rw [← h8, List.getElem?_take] at h9
  split at h9
  · simpa using h9
  · cases h9
theorem run_storeCell_tail (P : Program) (g o : Nat) (t : TypeId) (fz : Nat × Nat) (v : Value) (cur : Array Value) (w : World) (hg : w.heap[g]? = some (.cells cur t fz)) (hfz : o < fz.1 ∨ fz.2 = 0) (hl : o < cur.size) (h1 : v.oneCell' = true) :
    (storeCells ⟨g, o, none⟩ [v] 0).run P w = .ok () (w.setRow g (cur.setIfInBounds o v)) := by
  have hadd : (⟨g, o, none⟩ : Addr).add 0 = ⟨g, o, none⟩ := by simp [Addr.add]
  have hcell : w.cell? ⟨g, o, none⟩ = some cur[o] := by simp [World.cell?, hg, hl]
  have hfro : w.frozen? ⟨g, o, none⟩ = false := by
    obtain ⟨lo, hi'⟩ := fz
    simp only [World.frozen?, hg, Bool.and_eq_false_iff, decide_eq_false_iff_not]
    simp only at hfz
    omega
  have hst : (store ((⟨g, o, none⟩ : Addr).add 0) v).run P w = .ok () (w.setRow g (cur.setIfInBounds o v)) := by
    rw [hadd, run_store P w _ v _ h1, hcell]
    simp [hfro, setCell_eq_setRow w g o cur t fz v hg]
  simp only [storeCells, Sem.run_bind, hst, Result.andThen_ok]
  rfl
theorem run_append_tail (w : World) (base : Nat) (ty : TypeId) (v : Value) (bs : List UInt8) (hown : OwnT w base v bs) (ad : Addr) (c : UInt8) (hc : w.cell? (ad.add 0) = some (.int .u8 c.toNat)) (k : Nat) (hb : bs.length + 1 ≤ 140737488355328) (hbase : base ≤ w.heap.size) :
    ∃ v' w', (Builtin.append_ #[27, 27] ty #[v, .slice (some ad) 1 k]).run Tryd.prog w = .ok v' w' ∧ OwnT w' base v' (bs ++ [c]) ∧ Below base w w' := by
  obtain ⟨i, hi, hz0, hz1, hz2⟩ := info_parts info5
  obtain ⟨g, cap, cur, fz, rfl, hbg, hg, hfz, hnc, hcm, hcs, htake⟩ := hown
  have hnews : ∀ j u, [Value.int .u8 c.toNat][j]? = some u → w.cell? (ad.add j) = some u := by
    intro j u hu
    cases j with
    | zero => simp at hu; subst hu; exact hc
    | succ j => simp at hu
  by_cases hroom : bs.length + 1 ≤ cap
  · have hf := run_firstCells_some (P := Tryd.prog) w i.size 1 ad 1 k [.int .u8 c.toNat] (by simp [hz1]) hnews
    have hst := run_storeCell_tail Tryd.prog g bs.length 5 fz (.int .u8 c.toNat) cur w hg (by omega) (by omega) rfl
    refine ⟨.slice (some ⟨g, 0, none⟩) (bs.length + 1) cap, w.setRow g (cur.setIfInBounds bs.length (.int .u8 c.toNat)), ?_, ?_, ?_⟩
    · simp [Builtin.append_, run_underlying Tryd.underlying27, sizeOf, typeInfo, hi, hz1, Builtin.lenOf, hroom] at hf ⊢
      simp [hf, Addr.add_lit, hst]
    · refine ⟨g, cap, _, fz, by simp, hbg, setRow_heap w g cur _ 5 _ hg, hfz, by simpa using hroom, hcm, by simpa using hcs, ?_⟩
      have hl : bs.length < cur.toList.length := by simp; omega
      rw [Array.toList_setIfInBounds, cellsOf_append, ← htake, List.length_append, List.length_singleton, List.take_add_one, List.take_set_of_le (Nat.le_refl _), List.getElem?_set_self hl]
      rfl
    · exact below_setRow (Below.refl _ _) hbg _
  · have holds : ∀ j u, (cellsOf bs)[j]? = some u → w.cell? ((⟨g, 0, none⟩ : Addr).add j) = some u := by
      intro j u hu
      rw [Addr.add_lit, Nat.zero_add, cell_of_row w g j _ 5 fz hg]
      rw [← htake, List.getElem?_take] at hu
      split at hu
      · simpa using hu
      · cases hu
    have hr := run_append_grow (P := Tryd.prog) w 27 ty 5 i (.int .u8 0) Tryd.underlying27 hi hz0 ⟨g, 0, none⟩ bs.length cap (cellsOf bs) (by rw [cellsOf_length, hz1]; omega) holds ad 1 k [.int .u8 c.toNat] (by simp [hz1]) hnews (by omega) (by omega) (growslice_fits (by omega) (by rw [hz2]; omega))
    have hge := grownCap_ge w (bs.length + 1) cap 5
    have hcm2 : grownCap w (bs.length + 1) cap 5 ≤ maxLen := grownCap_le_maxLen w (bs.length + 1) cap 5 (by unfold maxLen; omega)
    refine ⟨_, _, hr, ⟨w.heap.size, _, _, (0, 0), by simp, hbase, heap_alloc_new w.drew _, .inr rfl, by simpa using hge, hcm2, ?_, ?_⟩, (Below.drew (Below.refl _ _)).alloc (by simpa using hbase) _⟩
    · simp only [Array.size_append, List.size_toArray, size_zeroCells, cellsOf_length]
      simp [Value.cells]
      omega
    · simp only [Array.toList_append, List.append_assoc, cellsOf_append, List.length_append, List.length_singleton]
      have : (bs.length + 1) = (cellsOf bs ++ [Value.int .u8 (c.toNat : Int)]).length := by simp [cellsOf]
      rw [this, ← List.append_assoc]
      exact List.take_left
theorem wpList_append_tail {ops : Array Oper} {rest : List Oper} {o : Oper} {a : Act} {Q : Exit → Act → World → Prop} (w : World)
    (hg : o.guard = none) (s x : Operand) (hop : o.op = Op.call { callee := Callee.builtin Builtin.append, args := #[s, x], argTypes := #[27, 27] })
    (base : Nat) (v : Value) (bs : List UInt8) (hs : a.eval s = v) (hown : OwnT w base v bs) (hbase : base ≤ w.heap.size)
    (ad : Addr) (k : Nat) (c : UInt8) (hx : a.eval x = .slice (some ad) 1 k) (hc : w.cell? (ad.add 0) = some (.int .u8 c.toNat)) (hb : bs.length + 1 ≤ 140737488355328)
    (hK : ∀ v' w', OwnT w' base v' (bs ++ [c]) → Below base w w' → wpList Tryd.prog ops Q rest (a.put o.dst v') w') :
    wpList Tryd.prog ops Q (o :: rest) a w := by
  refine wpList_plain hg fun K hKK => ?_
  obtain ⟨v', w', hr, h2, h3⟩ := run_append_tail w base o.type v bs hown ad c hc k hb hbase
  unfold Oper.wp execOp
  simp only [hop, resolve, invoke, builtin, Sem.run_bind, Sem.run_pure, Result.andThen_ok, List.map_toArray, List.map_cons, List.map_nil, hs, hx, hr]
  exact hKK _ _ (hK v' w' h2 h3)
theorem ownT_conv (w : World) (s : ByteArray) (hs : s.size ≤ 1000000) : OwnT (Lib.bytesWorld w 5 s) w.heap.size (.slice (some ⟨w.heap.size, 0, none⟩) s.size (grownCap w s.size 0 5)) (strB s) := by
  have hge := grownCap_ge w s.size 0 5
  have hcm := grownCap_le_maxLen w s.size 0 5 (by unfold maxLen; omega)
  have hsz : (Lib.bytesCells w 5 s).size = grownCap w s.size 0 5 := by simp [Lib.bytesCells]; omega
  refine ⟨w.heap.size, grownCap w s.size 0 5, Lib.bytesCells w 5 s, _, by rw [strB_length], Nat.le_refl _, Lib.bytesWorld_at_new w 5 s, .inl (by rw [hsz]; exact Nat.le_refl _), by rw [strB_length]; exact hge, hcm, hsz, ?_⟩
  have e : (Lib.bytesCells w 5 s).toList = cellsOf (strB s) ++ List.replicate (grownCap w s.size 0 5 - s.size) (.int .u8 0) := by
    simp [Lib.bytesCells, cellsOf, strB]
  rw [e, show (strB s).length = (cellsOf (strB s)).length by rw [cellsOf_length]]
  exact List.take_left
theorem bel_conv (w : World) (s : ByteArray) : Below w.heap.size w (Lib.bytesWorld w 5 s) := by
  refine ⟨?_, ?_, ?_, by rw [Lib.bytesWorld_size]; omega, fun k hk => Lib.bytesWorld_at_old w 5 s k hk⟩ <;> first | (unfold Lib.bytesWorld World.freeze; simp; done) | (unfold Lib.bytesWorld World.freeze; simp; rfl)
end Go.Proofs.YtecacjddggljgaaDoor.Sm
