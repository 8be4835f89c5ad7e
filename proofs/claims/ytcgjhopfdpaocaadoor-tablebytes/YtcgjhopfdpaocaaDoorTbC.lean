/-
  What table.Bytes answers: a contract over this translation.
-/
import Derived.Test.YtcgjhopfdpaocaaDoorTbB
import Derived.Lib.SlBytesConst
namespace Go.Proofs.YtcgjhopfdpaocaaDoor
open Go.RowKit Go.Sort Go.Shelf
set_option linter.unusedSectionVars false
variable [Inhabited E] [DecidableEq E]
attribute [local go_sem] Oper.semAt_some
theorem tableBytes_wrong (ao : Option Addr) (n c : Nat) (es : List E) (w : World) (hE : EntsV w ao n es) (hsm : Small es) (hbig : n ≤ 1000000000000) (hf : fitB es = false) :
    Calls Tryd.prog 13 #[.slice ao n c] w fun e w' => e = .returned (.tuple #[.slice none 0 0, .int .i64 1]) ∧ Below w.heap.size w w' := by
  have CF := fitT_any ao n c es w hE hsm hbig
  rw [hf] at CF
  have HCF : Hid _ := CF
  clear CF hE hsm hf
  go_enter Tryd.func13, Tryd.ntmps13
  go_wp2_with fail
  refine Calls.mono HCF.out ?_
  rintro e w1 ⟨rfl, hb1⟩
  have HB : Hid _ := hb1
  clear hb1
  go_wp2
  go_ret2
  exact ⟨rfl, HB.out⟩
/-- A row of bytes that is the call's own, or a constant's, full. -/
def RowB (n0 : Nat) (W : World) (v : Value) (bs : List UInt8) : Prop :=
  W.ownsRow n0 5 1 v bs.length (cellsOf bs) ∨ ∃ g, v = .slice (some ⟨g, 0, none⟩) bs.length bs.length ∧ n0 ≤ g ∧ W.heap[g]? = some (.cells (cellsOf bs).toArray 5 (bs.length, bs.length + 1)) ∧ bs.length ≤ 1000
theorem RowB.block {n0 : Nat} {W : World} {v : Value} {bs : List UInt8} (h : RowB n0 W v bs) : ∀ k, v.ownBlock = some k → n0 ≤ k ∧ ∃ cur fr, W.heap[k]? = some (.cells cur 5 fr) := by
  intro k hk
  rcases h with h | ⟨g, rfl, h1, h2, -⟩
  · rcases h.2 with ⟨rfl, _⟩ | ⟨g, cap, cur, rfl, hb, hg, _⟩
    · cases hk
    · cases hk; exact ⟨hb, cur, _, hg⟩
  · cases hk; exact ⟨h1, _, _, h2⟩
theorem RowB.same {n0 : Nat} {W W' : World} {v : Value} {bs : List UInt8} (h : RowB n0 W v bs) (hk : ∀ k cur fr, v.ownBlock = some k → W.heap[k]? = some (.cells cur 5 fr) → W'.heap[k]? = some (.cells cur 5 fr)) : RowB n0 W' v bs := by
  rcases h with h | ⟨g, rfl, h1, h2, h3⟩
  · refine .inl ⟨h.1, ?_⟩
    rcases h.2 with h2 | ⟨g, cap, cur, rfl, hb, hg, r⟩
    · exact .inl h2
    · exact .inr ⟨g, cap, cur, rfl, hb, hk _ _ _ rfl hg, r⟩
  · exact .inr ⟨g, rfl, h1, hk _ _ _ rfl h2, h3⟩
set_option maxRecDepth 100000 in
theorem run_append_row (w : World) (base : Nat) (ty : TypeId) (v : Value) (bs : List UInt8) (hown : RowB base w v bs) (hbase : base ≤ w.heap.size)
    (ad : Addr) (m c : Nat) (ms : List UInt8) (hm : Bytes w (some ad) m ms) (hp : 0 < m) (hb : bs.length + m ≤ 140737488355328) :
    ∃ v' w', (Builtin.append_ #[25, 25] ty #[v, .slice (some ad) m c]).run Tryd.prog w = .ok v' w' ∧ w'.ownsRow base 5 1 v' (bs ++ ms).length (cellsOf (bs ++ ms)) ∧ w.grownBy w' v.ownBlock ∧
      (v'.ownBlock = v.ownBlock ∨ ∃ g, v'.ownBlock = some g ∧ w.heap.size ≤ g) := by
  rcases hown with h | ⟨g, rfl, h1, h2, h3⟩
  · exact run_append_split w base ty v bs.length bs h hbase ad m c ms hm hp hb
  · obtain ⟨i0, hi, hz0, hz1, hz2⟩ := info_parts info5
    have hml := hm.1
    have hnews : ∀ j u, (cellsOf ms)[j]? = some u → w.cell? (ad.add j) = some u := by
      intro j u hu
      obtain ⟨c, hc, rfl⟩ := cellsOf_at hu
      obtain ⟨y, hy, hcell⟩ := hm.2 j c hc
      cases hy
      exact hcell
    have hl : (cellsOf ms).length = m * 1 := by rw [cellsOf_length]; omega
    have holds : ∀ j u, (cellsOf bs)[j]? = some u → w.cell? ((⟨g, 0, none⟩ : Addr).add j) = some u := by
      intro j u hu
      rw [Addr.add_lit, Nat.zero_add, cell_of_row w g j _ 5 _ h2]
      simpa using hu
    have hr := run_append_grow (P := Tryd.prog) w 25 ty 5 i0 (.int .u8 0) Tryd.underlying25 hi hz0 ⟨g, 0, none⟩ bs.length bs.length (cellsOf bs) (by rw [cellsOf_length, hz1]; omega) holds ad m c (cellsOf ms) (by rw [hz1]; exact hl) hnews (by omega) (by omega) (growslice_fits (by omega) (by rw [hz2]; omega))
    have hge := grownCap_ge w (bs.length + m) bs.length 5
    have hcm2 : grownCap w (bs.length + m) bs.length 5 ≤ maxLen := grownCap_le_maxLen w (bs.length + m) bs.length 5 (by unfold maxLen; omega)
    refine ⟨_, _, hr, ⟨by rw [cellsOf_length]; omega, .inr ⟨w.heap.size, _, _, by rw [List.length_append, hml], hbase, heap_alloc_new w.drew _, by rw [List.length_append, hml]; exact hge, hcm2, ?_, ?_⟩⟩, ?_, .inr ⟨_, rfl, Nat.le_refl _⟩⟩
    · simp only [Array.size_append, List.size_toArray, size_zeroCells, cellsOf_length]
      simp [Value.cells]
      omega
    · rw [Array.toList_append, Array.toList_append, List.toList_toArray, List.toList_toArray, ← cellsOf_append, Nat.mul_one]
      rw [show (bs ++ ms).length = (cellsOf (bs ++ ms)).length from (cellsOf_length _).symm]
      exact List.take_left
    · exact ⟨rfl, rfl, rfl, by simp, fun k hk _ => (Below.heap_alloc w.drew _ k (by simpa using hk)).trans rfl⟩
theorem wpListIn_append_row {F : Fence} {nn : Nat} {ops : Array Oper} {rest : List Oper} {o : Oper} {a : Act} {Q : Exit → Act → World → Prop} (w : World)
    (hg : o.guard = none) (s x : Operand) (hop : o.op = Op.call { callee := Callee.builtin Builtin.append, args := #[s, x], argTypes := #[25, 25] })
    (base : Nat) (v : Value) (bs : List UInt8) (hs : a.eval s = v) (hown : RowB base w v bs) (hbase : base ≤ w.heap.size)
    (ad : Addr) (m c : Nat) (ms : List UInt8) (hx : a.eval x = .slice (some ad) m c) (hm : Bytes w (some ad) m ms) (hp : 0 < m) (hb : bs.length + m ≤ 140737488355328)
    (hK : ∀ v' w', w'.ownsRow base 5 1 v' (bs ++ ms).length (cellsOf (bs ++ ms)) → w.grownBy w' v.ownBlock → (v'.ownBlock = v.ownBlock ∨ ∃ g, v'.ownBlock = some g ∧ w.heap.size ≤ g) → wpListIn F nn Tryd.prog ops Q rest (a.put o.dst v') w') :
    wpListIn F nn Tryd.prog ops Q (o :: rest) a w := by
  refine wpListIn_plain hg fun K hK' => ?_
  obtain ⟨v', w', hrun, r1, r2, r3⟩ := run_append_row w base o.type v bs hown hbase ad m c ms hm hp hb
  unfold Oper.wpIn
  refine ⟨?_, ?_⟩
  · simp [Oper.about, hop, resolve, Target.leads, Sem.run_pure]
  · rw [Oper.semAt_plain F _ _ (by rw [hop]; intro c hc'; cases hc')]
    simp [execOp, hop, resolve, invoke, builtin, hs, hx, hrun, Result.andThen]
    exact hK' _ _ (hK v' w' r1 r2 r3)
end Go.Proofs.YtcgjhopfdpaocaaDoor
