/-
  'append(own, more...)' over this translation, and a block that is written into.
-/
import Derived.Test.YtiimmknnlciljaaDoorSKept
import Derived.Laws.AppendOwnNone
import Derived.Lib.MinMax
namespace Go.Proofs.YtiimmknnlciljaaDoor.Sm
open Go.RowKit

/-- 'append(own, more...)'. -/
theorem wpList_append_bytes {ops : Array Oper} {rest : List Oper} {o : Oper} {a : Act} {Q : Exit → Act → World → Prop} (w : World)
    (hg : o.guard = none) (s x : Operand) (hop : o.op = Op.call { callee := Callee.builtin Builtin.append, args := #[s, x], argTypes := #[25, 25] })
    (base : Nat) (v : Value) (n : Nat) (bs : List UInt8) (hs : a.eval s = v) (hown : w.ownsRow base 5 1 v n (cellsOf bs)) (hbase : base ≤ w.heap.size)
    (ao : Option Addr) (m c : Nat) (ms : List UInt8) (hx : a.eval x = .slice ao m c) (hm : Bytes w ao m ms) (h0 : ao = none → c = 0)
    (hb : n + m ≤ 140737488355328)
    (hK : ∀ v' w', w'.ownsRow base 5 1 v' (bs ++ ms).length (cellsOf (bs ++ ms)) → Below base w w' → wpList Tryd.prog ops Q rest (a.put o.dst v') w') :
    wpList Tryd.prog ops Q (o :: rest) a w := by
  obtain ⟨i0, hi, hz0, hz1, hz2⟩ := info_parts info5
  have hn : n = bs.length := by have := hown.1; rw [cellsOf_length] at this; omega
  have hml := hm.1
  cases ao with
  | none =>
    have hms : ms = [] := by
      cases ms with
      | nil => rfl
      | cons b t =>
        obtain ⟨y, hy, _⟩ := hm.2 0 b (by simp)
        cases hy
    subst hms
    obtain rfl := h0 rfl
    have hm0 : m = 0 := by simpa using hml.symm
    subst hm0
    refine wpList_append_own_none hg s x 25 hop base 5 i0 1 Tryd.underlying25 hi v n (cellsOf bs) hs hown hx ?_
    exact hK v w (by rw [List.append_nil, ← hn]; exact hown) (Below.refl _ _)
  | some ad =>
    refine wpList_append_own w hg s x 25 hop base 5 i0 (.int .u8 0) 1 1 Tryd.underlying25 hi hz0 hz1 hz2 rfl (by decide) v n (cellsOf bs) hs hown ad m c (cellsOf ms) hx (by rw [cellsOf_length]; omega) ?_ (cellsOf_one ms) (by unfold maxLen; omega) (by omega) hbase ?_
    · intro j u hu
      obtain ⟨c, hc, rfl⟩ := cellsOf_at hu
      obtain ⟨y, hy, hcell⟩ := hm.2 j c hc
      cases hy
      exact hcell
    · intro v' w' h1 h2 _
      refine hK v' w' ?_ ((Below.refl _ _).grown h2 hbase (fun k hk => (hown.lt k hk).1))
      rw [List.length_append, hml, ← hn, cellsOf_append]
      exact h1

/-- The same, for a reader: the new slice written out, its numbers letters. -/
theorem wpList_append_read {ops : Array Oper} {rest : List Oper} {o : Oper} {a : Act} {Q : Exit → Act → World → Prop} (w : World)
    (hg : o.guard = none) (s x : Operand) (hop : o.op = Op.call { callee := Callee.builtin Builtin.append, args := #[s, x], argTypes := #[25, 25] })
    (base : Nat) (v : Value) (n : Nat) (bs : List UInt8) (hs : a.eval s = v) (hown : w.ownsRow base 5 1 v n (cellsOf bs)) (hbase : base ≤ w.heap.size)
    (ao : Option Addr) (m c : Nat) (ms : List UInt8) (hx : a.eval x = .slice ao m c) (hm : Bytes w ao m ms) (h0 : ao = none → c = 0)
    (hb : n + m ≤ 140737488355328)
    (hK : ∀ ao' n' c' w', Bytes w' ao' n' (bs ++ ms) → n' ≤ c' → c' ≤ 9223372036854775807 → n' ≤ n + m → Below base w w' → wpList Tryd.prog ops Q rest (a.put o.dst (.slice ao' n' c')) w') :
    wpList Tryd.prog ops Q (o :: rest) a w := by
  refine wpList_append_bytes w hg s x hop base v n bs hs hown hbase ao m c ms hx hm h0 hb ?_
  intro v' w' hown' hbel'
  obtain ⟨ao3, c3, rfl, hb3, _, hlc3, hcm3, _, _⟩ := own_bytes hown'
  have hn : n = bs.length := by have := hown.1; rw [cellsOf_length] at this; omega
  have hml := hm.1
  exact hK ao3 _ c3 w' hb3 hlc3 (by unfold maxLen at hcm3; omega) (by rw [List.length_append]; omega) hbel'

/-- The block of a row that is the call's own. -/
theorem own_cells {w : World} {base : Nat} {v : Value} {n : Nat} {bs : List UInt8} (h : w.ownsRow base 5 1 v n (cellsOf bs)) (hn : 0 < n) :
    ∃ g c R, v = .slice (some ⟨g, 0, none⟩) n c ∧ base ≤ g ∧ g < w.heap.size ∧ n ≤ c ∧ c ≤ 9223372036854775807 ∧ w.heap[g]? = some (.cells (cellsOf bs ++ R).toArray 5 (0, 0)) := by
  rcases h.2 with ⟨rfl, h0⟩ | ⟨g, cap, cur, rfl, hb, hg, hn', hm, hs, ht⟩
  · omega
  · refine ⟨g, cap, cur.toList.drop n, rfl, hb, (Array.getElem?_eq_some_iff.1 hg).1, hn', by unfold maxLen at hm; omega, ?_⟩
    rw [hg]
    have : cellsOf bs = cur.toList.take n := by rw [← ht]; simp
    rw [this, List.take_append_drop]
end Go.Proofs.YtiimmknnlciljaaDoor.Sm
