/-
  Digests that came in, appended onto an own row. Rows of the call's own that a store elsewhere leaves as they are; own digests. No walk.
-/
import Derived.Test.YtecacjddggljgaaDoorPartED
import Derived.Test.YtecacjddggljgaaDoorPartCD
import Derived.Test.YtecacjddggljgaaDoorPartDE
import Derived.Lib.MinMax
namespace Go.Proofs.YtecacjddggljgaaDoor.Sm
open Go.RowKit
theorem digC_cells {w : World} {b off : Nat} {es : List (List UInt8)} (hd : ∀ d ∈ es, d.length = 32) (hp : ∀ k d, es[k]? = some d → w.rangeAt b (off + k * 32) (cellsOf d)) : ∀ j u, (digC es)[j]? = some u → w.cell? ((⟨b, off, none⟩ : Addr).add j) = some u := by
  intro j u hu
  have hj := (List.getElem?_eq_some_iff.1 hu).1
  rw [digC_length es hd] at hj
  have hk : j / 32 < es.length := by omega
  have e : j = j / 32 * 32 + j % 32 := by omega
  have h1 := digC_at es (j / 32) es[j / 32] (j % 32) hd (List.getElem?_eq_getElem hk) (Nat.mod_lt _ (by omega))
  rw [← e, hu] at h1
  have h2 := hp (j / 32) es[j / 32] (List.getElem?_eq_getElem hk) (j % 32) u h1.symm
  rw [Addr.add_lit]
  rw [show off + j / 32 * 32 + j % 32 = off + j by omega] at h2
  exact h2
/-- 'append(own, path...)' of digests that came in. -/
theorem wpList_append_path {ops : Array Oper} {rest : List Oper} {o : Oper} {a : Act} {Q : Exit → Act → World → Prop} (w : World)
    (hg : o.guard = none) (s x : Operand) (hop : o.op = Op.call { callee := Callee.builtin Builtin.append, args := #[s, x], argTypes := #[28, 28] })
    (base : Nat) (v : Value) (ds : List (List UInt8)) (hs : a.eval s = v) (hown : DgO w base v ds) (hbase : base ≤ w.heap.size)
    (ao : Option Addr) (m c : Nat) (es : List (List UInt8)) (hx : a.eval x = .slice ao m c) (hP : PathV w ao es) (hl : es.length = m) (h0 : ao = none → c = 0) (hb : ds.length + es.length ≤ 1000)
    (hK : ∀ v' w', DgO w' base v' (ds ++ es) → Below base w w' → wpList Tryd.prog ops Q rest (a.put o.dst v') w') :
    wpList Tryd.prog ops Q (o :: rest) a w := by
  obtain ⟨i0, hi, hz0, hz1, hz2⟩ := info_parts info24
  cases ao with
  | none =>
    have hes : es = [] := by
      cases es with
      | nil => rfl
      | cons d t => obtain ⟨b, off, h, -⟩ := hP.2 (by simp); cases h
    subst hes
    obtain rfl := h0 rfl
    obtain rfl : 0 = m := hl
    exact wpList_append_dgo w hg s x hop base v ds hs hown hbase w.heap.size (.slice none 0 0) [] hx ⟨World.ownsRow_nil _ _ _ _, fun d hd => by simp at hd⟩ (by simpa using hb) (fun v' w' h1 h2 _ => hK v' w' h1 h2)
  | some ad =>
    have hcell : ∀ j u, (digC es)[j]? = some u → w.cell? (ad.add j) = some u := fun j u hu => by
      have hpos : 0 < es.length := by
        rcases Nat.eq_zero_or_pos es.length with h | h
        · rw [List.length_eq_zero_iff] at h
          subst h
          simp [digC] at hu
        · exact h
      obtain ⟨b, off, h1, h2⟩ := hP.2 hpos
      cases h1
      exact digC_cells hP.1 h2 j u hu
    refine BigFrame.wpList_want (by simp [Region.wanted, hg]) fun _ hK2 => ?_
    refine wp_append_own w s x 28 hop base 46 i0 _ 32 32 Tryd.underlying28 hi hz0 hz1 hz2 (by simp [Value.cells]) (by decide) v ds.length (digC ds) hs hown.1 ad m c (digC es) hx (by rw [digC_length es hP.1, hl]) hcell (digC_one es) (by unfold maxLen; omega) (by omega) hbase ?_
    intro v' w' a1 a2 _
    refine hK2 _ _ (hK v' w' ⟨by rw [digC_app, List.length_append, hl]; exact a1, fun d hd => ?_⟩ ((Below.refl _ _).grown a2 hbase (fun k hk => (hown.1.lt k hk).1)))
    rcases List.mem_append.1 hd with h | h
    · exact hown.2 d h
    · exact hP.1 d h
end Go.Proofs.YtecacjddggljgaaDoor.Sm
namespace Go.Proofs.YtecacjddggljgaaDoor
open Go.RowKit Go.Sort Go.Shelf
set_option linter.unusedSectionVars false
variable [Inhabited E] [DecidableEq E]
theorem pathv_take {w : World} {ao : Option Addr} {ds : List (List UInt8)} (h : Sm.PathV w ao ds) (k : Nat) : Sm.PathV w ao (ds.take k) :=
  ⟨fun d hd => h.1 d (List.mem_of_mem_take hd), fun hp => by
    obtain ⟨b, off, h1, h2⟩ := h.2 (by rw [List.length_take] at hp; omega)
    exact ⟨b, off, h1, fun j d hj => h2 j d (by rw [List.getElem?_take] at hj; split at hj; exact hj; cases hj)⟩⟩
theorem own_digs0 (w : World) : Sm.DgO (w.alloc (.cells #[] 46)) w.heap.size (.slice (some ⟨w.heap.size, 0, none⟩) 0 0) [] :=
  ⟨World.ownsRow_made w #[] 0 (Nat.le_refl _) (by unfold maxLen; omega) rfl, fun d hd => by simp at hd⟩
theorem own_setlow {W : World} {base g i : Nat} {e : TypeId} {z : Nat} {x v : Value} {n : Nat} {xs : List Value} (h : W.ownsRow base e z x n xs) (hg : g < base) : (W.setCell ⟨g, i, none⟩ v).ownsRow base e z x n xs :=
  owns_move h fun k hk _ => Below.heap_setCell _ _ _ _ (by show k ≠ g; omega)
theorem own_rowlow {W : World} {base g : Nat} {cs : Array Value} {e : TypeId} {z : Nat} {x : Value} {n : Nat} {xs : List Value} (h : W.ownsRow base e z x n xs) (hg : g < base) : (W.setRow g cs).ownsRow base e z x n xs :=
  owns_move h fun k hk _ => setRow_other W g k cs (by omega)
theorem dgo_path {w : World} {base : Nat} {v : Value} {ds : List (List UInt8)} (h : Sm.DgO w base v ds) : ∃ ao c, v = .slice ao ds.length c ∧ ds.length ≤ c ∧ c ≤ 9223372036854775807 ∧ Sm.PathV w ao ds ∧ (∀ x, ao = some x → base ≤ x.block) := by
  obtain ⟨⟨hl, ⟨rfl, h0⟩ | ⟨g, cap, cur, rfl, hg, hh, hc, hm, hs, ht⟩⟩, hd⟩ := h
  · have : ds = [] := List.length_eq_zero_iff.1 h0
    subst this
    exact ⟨none, 0, rfl, Nat.le_refl _, by omega, ⟨hd, fun h => absurd h (by simp)⟩, fun x h => by cases h⟩
  · have h2 : Sm.DgV w base (.slice (some ⟨g, 0, none⟩) ds.length cap) ds ∨ ds = [] := by
      by_cases h : ds = []
      · exact .inr h
      · exact .inl ⟨⟨hl, .inr ⟨g, cap, cur, rfl, hg, hh, hc, hm, hs, ht⟩⟩, fun h' => absurd h' h, hd⟩
    rcases h2 with h2 | h2
    · obtain ⟨ao, c, h3, h4, h5, h6, -⟩ := h2.path
      cases h3
      exact ⟨_, _, rfl, h4, h5, h6, fun x h => by cases h; exact hg⟩
    · subst h2
      exact ⟨_, cap, rfl, hc, by unfold maxLen at hm; omega, ⟨hd, fun h => absurd h (by simp)⟩, fun x h => by cases h; exact hg⟩
end Go.Proofs.YtecacjddggljgaaDoor
