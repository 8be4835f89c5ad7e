/-
  What block.pressed answers: a contract over this translation. What block.Bytes answers: a contract over this translation. What block.Bytes answers: a contract over this translation.
-/
import Derived.Test.YtecacjddggljgaaDoorPartAI
import Derived.Deep.DeepCutAuto
namespace Go.Proofs.YtecacjddggljgaaDoor
open Go.RowKit Go.Sort Go.Shelf
set_option linter.unusedSectionVars false
variable [Inhabited E] [DecidableEq E]
/-- 'append(own, x)' in a region that draws. -/
theorem step_append_byte {ops : Array Oper} {o : Oper} {a : Act} {K : Act → World → Prop} {Q : Exit → Act → World → Prop} {E : Prop} (w : World)
    (hg : o.guard = none) (s x : Operand) (hop : o.op = Op.call { callee := Callee.builtin Builtin.append, args := #[s, x], argTypes := #[27, 27] })
    (base : Nat) (v : Value) (n : Nat) (bs : List UInt8) (hs : a.eval s = v) (hown : w.ownsRow base 5 1 v n (cellsOf bs)) (hbase : base ≤ w.heap.size)
    (ad : Addr) (c : Nat) (t : UInt8) (hx : a.eval x = .slice (some ad) 1 c) (hc : Bytes w (some ad) 1 [t])
    (hb : n + 1 ≤ 140737488355328)
    (hK : ∀ g cp w', w'.ownsRow base 5 1 (.slice (some ⟨g, 0, none⟩) (n + 1) cp) (n + 1) (cellsOf (bs ++ [t])) → n + 1 ≤ cp → cp ≤ 9223372036854775807 → Below base w w' → K (a.put o.dst (.slice (some ⟨g, 0, none⟩) (n + 1) cp)) w') :
    if Region.wanted o (yielded ops a.tmps) = true then Oper.wp Tryd.prog o a w K Q else E := by
  have hw : Region.wanted o (yielded ops a.tmps) = true := by simp [Region.wanted, hg]
  rw [if_pos hw]
  obtain ⟨i0, hi, hz0, hz1, hz2⟩ := info_parts info5
  refine wp_append_own w s x 27 hop base 5 i0 (.int .u8 0) 1 1 Tryd.underlying27 hi hz0 hz1 hz2 rfl (by decide) v n (cellsOf bs) hs hown ad 1 c (cellsOf [t]) hx rfl ?_ (cellsOf_one [t]) (by unfold maxLen; omega) (by omega) hbase ?_
  · intro j u hu
    obtain ⟨c', hc', rfl⟩ := cellsOf_at hu
    obtain ⟨y, hy, hcell⟩ := hc.2 j c' hc'
    cases hy
    exact hcell
  · intro v' w' h1 h2 _
    obtain ⟨g, cp, rfl, _, _, k3, k4⟩ := own_shape h1 (by omega)
    exact hK g cp w' (by rw [cellsOf_append]; exact h1) k3 k4 ((Below.refl _ _).grown h2 hbase (fun k hk => (hown.lt k hk).1))
/-- An entry's bytes behind one with the key ahead. -/
def pressB (ahead : ByteArray) (e : E) : List UInt8 :=
  (putB (comN (strB ahead) (strB e.key)) ++ textB ((strB e.key).drop (comN (strB ahead) (strB e.key)))) ++ ((if e.del then 1 else 0) :: putB e.seq.toNat ++ (if e.del then [] else textB (strB e.value)))
theorem strB_from (s : ByteArray) (c : Nat) : strB (s.extract c s.size) = (strB s).drop c := by
  have := extract_strB s c (s.size - c)
  by_cases h : c ≤ s.size
  · rw [show c + (s.size - c) = s.size by omega] at this
    rw [this, strB_mk, List.take_of_length_le (by rw [List.length_drop, strB_length]; omega)]
  · rw [List.drop_eq_nil_of_le (by rw [strB_length]; omega)]
    apply List.eq_nil_of_length_eq_zero
    rw [strB_length, ByteArray.size_extract]; omega
end Go.Proofs.YtecacjddggljgaaDoor
namespace Go.Proofs.YtecacjddggljgaaDoor
open Go.RowKit Go.Sort Go.Shelf
set_option linter.unusedSectionVars false
variable [Inhabited E] [DecidableEq E]
set_option maxRecDepth 100000 in
/-- 'append(own, more...)': where the new row lies. -/
theorem run_append_split (w : World) (base : Nat) (ty : TypeId) (v : Value) (n : Nat) (bs : List UInt8) (hown : w.ownsRow base 5 1 v n (cellsOf bs)) (hbase : base ≤ w.heap.size)
    (ad : Addr) (m c : Nat) (ms : List UInt8) (hm : Bytes w (some ad) m ms) (hp : 0 < m) (hb : n + m ≤ 140737488355328) :
    ∃ v' w', (Builtin.append_ #[27, 27] ty #[v, .slice (some ad) m c]).run Tryd.prog w = .ok v' w' ∧ w'.ownsRow base 5 1 v' (bs ++ ms).length (cellsOf (bs ++ ms)) ∧ w.grownBy w' v.ownBlock ∧
      (v'.ownBlock = v.ownBlock ∨ ∃ g, v'.ownBlock = some g ∧ w.heap.size ≤ g) := by
  obtain ⟨i0, hi, hz0, hz1, hz2⟩ := info_parts info5
  have hn : n = bs.length := by have := hown.1; rw [cellsOf_length] at this; omega
  have hml := hm.1
  have hnews : ∀ j u, (cellsOf ms)[j]? = some u → w.cell? (ad.add j) = some u := by
    intro j u hu
    obtain ⟨c, hc, rfl⟩ := cellsOf_at hu
    obtain ⟨y, hy, hcell⟩ := hm.2 j c hc
    cases hy
    exact hcell
  have hl : (cellsOf ms).length = m * 1 := by rw [cellsOf_length]; omega
  obtain ⟨v', w', hr, h2, h3, h4⟩ := run_append_own (P := Tryd.prog) w base 27 ty 5 i0 (.int .u8 0) 1 1 Tryd.underlying27 hi hz0 hz1 hz2 rfl (by decide) v n (cellsOf bs) hown ad m c (cellsOf ms) hl hnews (cellsOf_one ms) (by unfold maxLen; omega) (by omega) hbase
  refine ⟨v', w', hr, by rw [List.length_append, hml, ← hn, cellsOf_append]; exact h2, h3, ?_⟩
  rcases hown.2 with ⟨rfl, h0⟩ | ⟨g, cap, cur, rfl, hbg, hg, hnc, hcm, hcs, htake⟩
  · right
    have hr2 := run_append_nil (P := Tryd.prog) w 27 ty 5 i0 (.int .u8 0) Tryd.underlying27 hi hz0 ad m c (cellsOf ms) (by rw [hz1]; exact hl) hnews hp (by omega) (by rw [hz2]; omega)
    rw [hr2] at hr
    injection hr with e1 e2
    subst e1
    exact ⟨_, rfl, Nat.le_refl _⟩
  · by_cases hroom : n + m ≤ cap
    · left
      have hr2 := run_append_room (P := Tryd.prog) w 27 ty 5 i0 Tryd.underlying27 hi g n cap cur hg ad m c (cellsOf ms) (by rw [hz1]; exact hl) hnews (cellsOf_one ms) hroom (by rw [hz1, hl, hcs]; omega)
      rw [hr2] at hr
      injection hr with e1 e2
      subst e1
      rfl
    · right
      have holds : ∀ j u, (cellsOf bs)[j]? = some u → w.cell? ((⟨g, 0, none⟩ : Addr).add j) = some u := hown.cells (g := g) rfl
      have hr2 := run_append_grow (P := Tryd.prog) w 27 ty 5 i0 (.int .u8 0) Tryd.underlying27 hi hz0 ⟨g, 0, none⟩ n cap (cellsOf bs) (by rw [hz1]; exact hown.1) holds ad m c (cellsOf ms) (by rw [hz1]; exact hl) hnews (by omega) (by omega) (growslice_fits (by omega) (by rw [hz2]; omega))
      rw [hr2] at hr
      injection hr with e1 e2
      subst e1
      exact ⟨_, rfl, Nat.le_refl _⟩
theorem wpList_append_split {ops : Array Oper} {rest : List Oper} {o : Oper} {a : Act} {Q : Exit → Act → World → Prop} (w : World)
    (hg : o.guard = none) (s x : Operand) (hop : o.op = Op.call { callee := Callee.builtin Builtin.append, args := #[s, x], argTypes := #[27, 27] })
    (base : Nat) (v : Value) (n : Nat) (bs : List UInt8) (hs : a.eval s = v) (hown : w.ownsRow base 5 1 v n (cellsOf bs)) (hbase : base ≤ w.heap.size)
    (ad : Addr) (m c : Nat) (ms : List UInt8) (hx : a.eval x = .slice (some ad) m c) (hm : Bytes w (some ad) m ms) (hp : 0 < m) (hb : n + m ≤ 140737488355328)
    (hK : ∀ v' w', w'.ownsRow base 5 1 v' (bs ++ ms).length (cellsOf (bs ++ ms)) → w.grownBy w' v.ownBlock → (v'.ownBlock = v.ownBlock ∨ ∃ g, v'.ownBlock = some g ∧ w.heap.size ≤ g) → wpList Tryd.prog ops Q rest (a.put o.dst v') w') :
    wpList Tryd.prog ops Q (o :: rest) a w := by
  refine wpList_plain hg fun K hK2 => ?_
  obtain ⟨v', w', hr, h2, h3, h4⟩ := run_append_split w base o.type v n bs hown hbase ad m c ms hm hp hb
  unfold Oper.wp execOp
  simp only [hop, resolve, invoke, builtin, Sem.run_bind, Sem.run_pure, Result.andThen_ok, List.map_toArray, List.map_cons, List.map_nil, hs, hx, hr]
  exact hK2 _ _ (hK v' w' h2 h3 h4)
/-! ### what a block is -/
/-- The key ahead of the i-th entry, where it counts. -/
def aheadK (es : List E) (i : Nat) : ByteArray := if i % 8 = 0 then ⟨#[]⟩ else es[i - 1]!.key
def bodyB (es : List E) : Nat → List UInt8
  | 0 => []
  | i + 1 => bodyB es i ++ pressB (aheadK es i) es[i]!
def placesB (es : List E) : Nat → List UInt8
  | 0 => []
  | i + 1 => if i % 8 = 0 then placesB es i ++ fixB (bodyB es i).length else placesB es i
def blockB (es : List E) : List UInt8 := bodyB es es.length ++ (placesB es es.length ++ fixB ((placesB es es.length).length / 4))
def fitB (es : List E) : Bool := decide (1 ≤ es.length ∧ es.length ≤ 64) && es.all rightB && sortedB es
theorem pressB_len (ah : ByteArray) (e : E) (h : rightB e = true) : (pressB ah e).length ≤ 1300 ∧ 1 ≤ (pressB ah e).length := by
  obtain ⟨h1, h2, qn, h3, h4, h5⟩ := right_parts h
  have a1 := putB_le (comN (strB ah) (strB e.key))
  have a2 := textB_len ((strB e.key).drop (comN (strB ah) (strB e.key)))
  have a3 := textB_len (strB e.value)
  have a4 := putB_le e.seq.toNat
  rw [List.length_drop, strB_length] at a2
  rw [strB_length] at a3
  unfold pressB
  simp only [List.length_append, List.length_cons]
  refine ⟨?_, by omega⟩
  split
  · simp; omega
  · omega
theorem bodyB_len (es : List E) (hr : ∀ e ∈ es, rightB e = true) : ∀ i, i ≤ es.length → (bodyB es i).length ≤ 1300 * i
  | 0, _ => by simp [bodyB]
  | i + 1, h => by
    have h1 := bodyB_len es hr i (by omega)
    have h2 := (pressB_len (aheadK es i) es[i]! (hr _ (by rw [getElem!_pos es i (by omega)]; exact List.getElem_mem _))).1
    rw [bodyB, List.length_append]; omega
theorem placesB_len (es : List E) : ∀ i, (placesB es i).length = 4 * ((i + 7) / 8)
  | 0 => rfl
  | i + 1 => by
    have h1 := placesB_len es i
    rw [placesB]
    split
    · rw [List.length_append, h1]; simp only [fixB, List.length_cons, List.length_nil]; omega
    · rw [h1]; omega
end Go.Proofs.YtecacjddggljgaaDoor
namespace Go.Proofs.YtecacjddggljgaaDoor
open Go.RowKit Go.Sort Go.Shelf
set_option linter.unusedSectionVars false
variable [Inhabited E] [DecidableEq E]
/-- Bytes in a block that an append did not turn. -/
theorem bytes_grown {w w' : World} {ao : Option Addr} {n : Nat} {bs : List UInt8} {row : Option Nat} (h : Bytes w ao n bs) (hg : w.grownBy w' row) (hne : ∀ x, ao = some x → x.block < w.heap.size ∧ row ≠ some x.block) : Bytes w' ao n bs := by
  refine ⟨h.1, fun i c hi => ?_⟩
  obtain ⟨x, hx, hc⟩ := h.2 i c hi
  refine ⟨x, hx, ?_⟩
  obtain ⟨h1, h2⟩ := hne x hx
  rw [← hc]
  have hb : (x.add i).block = x.block := by unfold Addr.add; split <;> rfl
  exact World.cell?_of_block (by rw [hb]; exact hg.block x.block h1 (fun e => h2 e.symm))
theorem own_block {w : World} {base n : Nat} {v : Value} {bs : List UInt8} (h : w.ownsRow base 5 1 v n (cellsOf bs)) : ∀ k, v.ownBlock = some k → base ≤ k ∧ k < w.heap.size := by
  intro k hk
  obtain ⟨ao, cap, rfl, _, _, _, _, _, hx⟩ := own_bytes h
  cases ao with
  | none => cases hk
  | some x => cases hk; exact hx x rfl
theorem take_right {es : List E} (h : es.all rightB = true) (i : Nat) (hi : i < es.length) : rightB es[i]! = true := by
  rw [List.all_eq_true] at h
  exact h _ (by rw [getElem!_pos es i hi]; exact List.getElem_mem hi)
def lastK (es : List E) (i : Nat) : ByteArray := if i = 0 then ⟨#[]⟩ else es[i - 1]!.key
end Go.Proofs.YtecacjddggljgaaDoor
