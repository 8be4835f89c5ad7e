/-
  Digests that came in, appended onto an own row. What the law's opening answers: a contract over this translation.
-/
import Derived.Test.YtecacjddggljgaaDoorPartED
import Derived.Test.YtecacjddggljgaaDoorPartCD
import Derived.Test.YtecacjddggljgaaDoorPartCI
import Derived.Test.YtecacjddggljgaaDoorPartDE
import Derived.Lib.MinMax
namespace Go.Proofs.YtecacjddggljgaaDoor.Sm
open Go.RowKit
theorem digC_cells {w : World} {b off : Nat} {es : List (List UInt8)} (hd : ∀ d ∈ es, d.length = 32) (hp : ∀ k d, es[k]? = some d → w.rangeAt b (off + k * 32) (cellsOf d)) : ∀ j u, (digC es)[j]? = some u → w.cell? ((⟨b, off, none⟩ : Addr).add j) = some u := by
  intro j u hu
  have hj := (List.getElem?_eq_some_iff.1 hu).1
  rw [digC_length es hd] at hj
  have hk : j / 32 < es.length := by omega
  have e : j = j / 32 * 32 + j % 32 := by omega
  have h1 := digC_at es (j / 32) es[j / 32] (j % 32) hd (List.getElem?_eq_getElem hk) (Nat.mod_lt _ (by omega))
  rw [← e, hu] at h1
  have h2 := hp (j / 32) es[j / 32] (List.getElem?_eq_getElem hk) (j % 32) u h1.symm
  rw [Addr.add_lit]
  rw [show off + j / 32 * 32 + j % 32 = off + j by omega] at h2
  exact h2
/-- 'append(own, path...)' of digests that came in. -/
theorem wpList_append_path {ops : Array Oper} {rest : List Oper} {o : Oper} {a : Act} {Q : Exit → Act → World → Prop} (w : World)
    (hg : o.guard = none) (s x : Operand) (hop : o.op = Op.call { callee := Callee.builtin Builtin.append, args := #[s, x], argTypes := #[28, 28] })
    (base : Nat) (v : Value) (ds : List (List UInt8)) (hs : a.eval s = v) (hown : DgO w base v ds) (hbase : base ≤ w.heap.size)
    (ao : Option Addr) (m c : Nat) (es : List (List UInt8)) (hx : a.eval x = .slice ao m c) (hP : PathV w ao es) (hl : es.length = m) (h0 : ao = none → c = 0) (hb : ds.length + es.length ≤ 1000)
    (hK : ∀ v' w', DgO w' base v' (ds ++ es) → Below base w w' → wpList Tryd.prog ops Q rest (a.put o.dst v') w') :
    wpList Tryd.prog ops Q (o :: rest) a w := by
  obtain ⟨i0, hi, hz0, hz1, hz2⟩ := info_parts info24
  cases ao with
  | none =>
    have hes : es = [] := by
      cases es with
      | nil => rfl
      | cons d t => obtain ⟨b, off, h, -⟩ := hP.2 (by simp); cases h
    subst hes
    obtain rfl := h0 rfl
    obtain rfl : 0 = m := hl
    exact wpList_append_dgo w hg s x hop base v ds hs hown hbase w.heap.size (.slice none 0 0) [] hx ⟨World.ownsRow_nil _ _ _ _, fun d hd => by simp at hd⟩ (by simpa using hb) (fun v' w' h1 h2 _ => hK v' w' h1 h2)
  | some ad =>
    have hcell : ∀ j u, (digC es)[j]? = some u → w.cell? (ad.add j) = some u := fun j u hu => by
      have hpos : 0 < es.length := by
        rcases Nat.eq_zero_or_pos es.length with h | h
        · rw [List.length_eq_zero_iff] at h
          subst h
          simp [digC] at hu
        · exact h
      obtain ⟨b, off, h1, h2⟩ := hP.2 hpos
      cases h1
      exact digC_cells hP.1 h2 j u hu
    refine BigFrame.wpList_want (by simp [Region.wanted, hg]) fun _ hK2 => ?_
    refine wp_append_own w s x 28 hop base 46 i0 _ 32 32 Tryd.underlying28 hi hz0 hz1 hz2 (by simp [Value.cells]) (by decide) v ds.length (digC ds) hs hown.1 ad m c (digC es) hx (by rw [digC_length es hP.1, hl]) hcell (digC_one es) (by unfold maxLen; omega) (by omega) hbase ?_
    intro v' w' a1 a2 _
    refine hK2 _ _ (hK v' w' ⟨by rw [digC_app, List.length_append, hl]; exact a1, fun d hd => ?_⟩ ((Below.refl _ _).grown a2 hbase (fun k hk => (hown.1.lt k hk).1)))
    rcases List.mem_append.1 hd with h | h
    · exact hown.2 d h
    · exact hP.1 d h
end Go.Proofs.YtecacjddggljgaaDoor.Sm
namespace Go.Proofs.YtecacjddggljgaaDoor
open Go.RowKit Go.Sort Go.Shelf
set_option linter.unusedSectionVars false
variable [Inhabited E] [DecidableEq E]
/-- An opening that came in: its leaf may be of any length. -/
structure OpnA (w : World) (o : Opn) : Prop where
  leaf : Bytes w o.lo o.ln o.bs
  l0 : o.lo = none → o.lc = 0
  l1 : o.ln ≤ o.lc
  l2 : o.lc ≤ 9223372036854775807
  len : o.ds.length = o.pn
  p0 : o.po = none → o.pc = 0
  p1 : o.pn ≤ o.pc
  p2 : o.pc ≤ 9223372036854775807
  path : Sm.PathV w o.po o.ds
theorem OpnA.keep {w w' : World} {o : Opn} (h : OpnA w o) (hb : Below w.heap.size w w') : OpnA w' o :=
  ⟨bytes_kept h.leaf hb (Nat.le_refl _), h.l0, h.l1, h.l2, h.len, h.p0, h.p1, h.p2, h.path.below hb (Nat.le_refl _)⟩
def zeroOC : Array Value := #[.int .i64 0, .slice none 0 0, .slice none 0 0]
/-- An opening, cut. -/
def cutIs (o o' : Opn) : Prop := o'.at_ = o.at_ ∧ o'.bs = o.bs.take 1300 ∧ o'.ds = o.ds.take 20
/-- Where an opening's parts lie. -/
structure OpnF (base : Nat) (o : Opn) : Prop where
  leaf : ∀ x, o.lo = some x → base ≤ x.block
  path : ∀ x, o.po = some x → base ≤ x.block
theorem OpnV.shift {base : Nat} {W V : World} {o : Opn} (h : OpnV W o) (hf : OpnF base o) (hk : ∀ k, base ≤ k → V.heap[k]? = W.heap[k]?) : OpnV V o := by
  refine ⟨⟨h.leaf.1, fun i c hi => ?_⟩, h.l0, h.l1, h.l2, h.l3, h.len, h.p1, h.p2, ⟨h.path.1, fun hp => ?_⟩⟩
  · obtain ⟨x, hx, hc⟩ := h.leaf.2 i c hi
    refine ⟨x, hx, ?_⟩
    rw [← hc]
    exact World.cell?_of_block (hk _ (by have := hf.leaf x hx; unfold Addr.add; split <;> exact this))
  · obtain ⟨b, off, hb, hr⟩ := h.path.2 hp
    refine ⟨b, off, hb, fun k d hd j v hv => ?_⟩
    rw [← hr k d hd j v hv]
    exact World.cell?_of_block (hk _ (show base ≤ b from hf.path _ hb))
theorem pathv_take {w : World} {ao : Option Addr} {ds : List (List UInt8)} (h : Sm.PathV w ao ds) (k : Nat) : Sm.PathV w ao (ds.take k) :=
  ⟨fun d hd => h.1 d (List.mem_of_mem_take hd), fun hp => by
    obtain ⟨b, off, h1, h2⟩ := h.2 (by rw [List.length_take] at hp; omega)
    exact ⟨b, off, h1, fun j d hj => h2 j d (by rw [List.getElem?_take] at hj; split at hj; exact hj; cases hj)⟩⟩
theorem own_digs0 (w : World) : Sm.DgO (w.alloc (.cells #[] 46)) w.heap.size (.slice (some ⟨w.heap.size, 0, none⟩) 0 0) [] :=
  ⟨World.ownsRow_made w #[] 0 (Nat.le_refl _) (by unfold maxLen; omega) rfl, fun d hd => by simp at hd⟩
theorem own_setlow {W : World} {base g i : Nat} {e : TypeId} {z : Nat} {x v : Value} {n : Nat} {xs : List Value} (h : W.ownsRow base e z x n xs) (hg : g < base) : (W.setCell ⟨g, i, none⟩ v).ownsRow base e z x n xs :=
  owns_move h fun k hk _ => Below.heap_setCell _ _ _ _ (by show k ≠ g; omega)
theorem own_rowlow {W : World} {base g : Nat} {cs : Array Value} {e : TypeId} {z : Nat} {x : Value} {n : Nat} {xs : List Value} (h : W.ownsRow base e z x n xs) (hg : g < base) : (W.setRow g cs).ownsRow base e z x n xs :=
  owns_move h fun k hk _ => setRow_other W g k cs (by omega)
theorem dgo_path {w : World} {base : Nat} {v : Value} {ds : List (List UInt8)} (h : Sm.DgO w base v ds) : ∃ ao c, v = .slice ao ds.length c ∧ ds.length ≤ c ∧ c ≤ 9223372036854775807 ∧ Sm.PathV w ao ds ∧ (∀ x, ao = some x → base ≤ x.block) := by
  obtain ⟨⟨hl, ⟨rfl, h0⟩ | ⟨g, cap, cur, rfl, hg, hh, hc, hm, hs, ht⟩⟩, hd⟩ := h
  · have : ds = [] := List.length_eq_zero_iff.1 h0
    subst this
    exact ⟨none, 0, rfl, Nat.le_refl _, by omega, ⟨hd, fun h => absurd h (by simp)⟩, fun x h => by cases h⟩
  · have h2 : Sm.DgV w base (.slice (some ⟨g, 0, none⟩) ds.length cap) ds ∨ ds = [] := by
      by_cases h : ds = []
      · exact .inr h
      · exact .inl ⟨⟨hl, .inr ⟨g, cap, cur, rfl, hg, hh, hc, hm, hs, ht⟩⟩, fun h' => absurd h' h, hd⟩
    rcases h2 with h2 | h2
    · obtain ⟨ao, c, h3, h4, h5, h6, -⟩ := h2.path
      cases h3
      exact ⟨_, _, rfl, h4, h5, h6, fun x h => by cases h; exact hg⟩
    · subst h2
      exact ⟨_, cap, rfl, hc, by unfold maxLen at hm; omega, ⟨hd, fun h => absurd h (by simp)⟩, fun x h => by cases h; exact hg⟩
set_option maxRecDepth 100000 in
set_option maxHeartbeats 4000000 in
theorem opening_any (o : Opn) (w : World) (h : OpnA w o) :
    Calls Tryd.prog 49 #[.agg o.cells] w fun e w' => ∃ o' : Opn, e = .returned (.agg o'.cells) ∧ OpnV w' o' ∧ cutIs o o' ∧ o'.ln ≤ 1300 ∧ o'.pn ≤ 20 ∧ OpnF w.heap.size o' ∧ Below w.heap.size w w' := by
  obtain ⟨W2, HW2⟩ : ∃ W, Hid (W = (w.alloc (.cells o.cells 30)).alloc (.cells zeroOC 30)) := ⟨_, rfl⟩
  have HF2 : Hid (W2.heap[w.heap.size]? = some (.cells o.cells 30 (0, 0)) ∧ W2.heap[w.heap.size + 1]? = some (.cells zeroOC 30 (0, 0)) ∧ Below w.heap.size w W2 ∧ W2.heap.size = w.heap.size + 2) := by
    show _ ∧ _
    rw [HW2.out]; exact Sm.frame2 w _ _ _
  have HA : Hid (OpnA w o) := h
  have HA2 : Hid (OpnA W2 o) := h.keep HF2.out.2.2.1
  clear h
  obtain ⟨at0, lo, ln, lc, bs, po, pn, pc, ds⟩ := o
  simp only [Opn.cells] at *
  obtain ⟨m, HM⟩ : ∃ m : Nat, Hid (m = min ln 1300) := ⟨_, rfl⟩
  obtain ⟨q, HQ⟩ : ∃ m : Nat, Hid (m = min pn 20) := ⟨_, rfl⟩
  have hm1 : min (ln : Int) 1300 = (m : Int) := by have := HM.out; omega
  have hq1 : min (pn : Int) 20 = (q : Int) := by have := HQ.out; omega
  have hm2 : m ≤ lc := by have := HM.out; have := HA.out.l1; show m ≤ lc; simp only at this; omega
  have hq2 : q ≤ pc := by have := HQ.out; have := HA.out.p1; simp only at this; omega
  have hm3 : (m : Int) ≤ (lc : Int) := by omega
  have hq3 : (q : Int) ≤ (pc : Int) := by omega
  have hrow := HF2.out.1
  have c0 : W2.cell? ⟨w.heap.size, 1, none⟩ = some (.slice lo ln lc) := by rw [cell_of_row _ _ _ _ _ _ hrow]; rfl
  have HRW : Hid _ := hrow
  clear hrow
  go_enter Tryd.func49, Tryd.ntmps49
  go_upto_region 1 with fail
  have HW2' : Hid _ := HW2.out
  unfold zeroOC at HW2'
  rw [← HW2'.out]
  cases lo with
  | none =>
    obtain rfl : lc = 0 := HA.out.l0 rfl
    obtain rfl : ln = 0 := by have := HA.out.l1; simp only at this; omega
    obtain rfl : m = 0 := by omega
    have c1 := cell_kept (bel_alloc W2 (Obj.cells #[] 5)) (by have := HF2.out.2.2.2; omega) c0
    clear c0
    go_wp2_with (at_builtin; refine wpList_append_bytes _ rfl (.tmp 3) (.tmp 10) rfl W2.heap.size (.slice (some ⟨W2.heap.size, 0, none⟩) 0 0) 0 [] rfl (own_empty W2) (bel_alloc W2 _).size none 0 0 (bs.take 0) rfl (bytes_take (bytes_kept HA2.out.leaf (bel_alloc W2 _) (Nat.le_refl _)) 0 (Nat.le_refl _)) (fun _ => rfl) (by omega) ?_)
    intro v4 w4 hown4 hbel4
    have hown5 : w4.ownsRow W2.heap.size 5 1 v4 (bs.take 0).length (cellsOf (bs.take 0)) := by first | exact hown4 | (rw [List.length_take]; exact hown4)
    obtain ⟨ao4, c4, hv4, -⟩ := own_bytes hown5
    have HB4 : Hid (Below W2.heap.size W2 w4) := (bel_alloc W2 _).trans hbel4
    have hrow4 := (HB4.out.block w.heap.size (by have := HF2.out.2.2.2; omega)).trans HRW.out
    have hrow42 := (HB4.out.block (w.heap.size + 1) (by have := HF2.out.2.2.2; omega)).trans HF2.out.2.1
    have z4 : w4.frozen? ⟨w.heap.size, 1, none⟩ = false := frozen_of_row w4 _ 1 _ 30 hrow4
    have k4 : w4.cell? ⟨w.heap.size, 1, none⟩ = some (.slice none 0 0) := by rw [cell_of_row _ _ _ _ _ _ hrow4]; rfl
    subst hv4
    obtain ⟨bt, HBT⟩ : ∃ x, Hid (bs.take 0 = x) := ⟨_, rfl⟩
    rw [HBT.out] at hown5
    rw [HBT.out]
    obtain ⟨tn, HTN⟩ : ∃ x, Hid (bt.length = x) := ⟨_, rfl⟩
    rw [HTN.out] at hown5
    rw [HTN.out]
    have HR5 : Hid ((w4.setCell ⟨w.heap.size, 1, none⟩ (.slice ao4 tn c4)).heap[w.heap.size]? = some (.cells #[.int .i64 at0, .slice ao4 tn c4, .slice po pn pc] 30 (0, 0))) := heap_set w4 _ 1 _ _ _ hrow4
    have HR52 : Hid ((w4.setCell ⟨w.heap.size, 1, none⟩ (.slice ao4 tn c4)).heap[w.heap.size + 1]? = some (.cells zeroOC 30 (0, 0))) := (Below.heap_setCell _ _ _ _ (by show w.heap.size + 1 ≠ w.heap.size; omega)).trans hrow42
    have HB5 : Hid (Below w.heap.size w (w4.setCell ⟨w.heap.size, 1, none⟩ (.slice ao4 tn c4))) := (HF2.out.2.2.1.trans (HB4.out.mono HF2.out.2.2.1.size)).setCell (Nat.le_refl _) _
    have HOW : Hid ((w4.setCell ⟨w.heap.size, 1, none⟩ (.slice ao4 tn c4)).ownsRow W2.heap.size 5 1 (.slice ao4 tn c4) tn (cellsOf bt)) := own_setlow hown5 (by have := HF2.out.2.2.2; omega)
    clear hown4 hown5 hbel4 hrow4 hrow42
    go_upto_region 2 with fail
    generalize hW5 : w4.setCell ⟨w.heap.size, 1, none⟩ (.slice ao4 tn c4) = W5 at *
    have HA5 : Hid (OpnA W5 ⟨at0, none, 0, 0, bs, po, pn, pc, ds⟩) := HA.out.keep HB5.out
    have hrow5 := HR5.out
    have k5 : W5.cell? ⟨w.heap.size, 2, none⟩ = some (.slice po pn pc) := by rw [cell_of_row _ _ _ _ _ _ hrow5]; rfl
    have HZ5 : Hid (w.heap.size < W5.heap.size ∧ w.heap.size + 1 < W5.heap.size) := ⟨(Array.getElem?_eq_some_iff.1 HR5.out).1, (Array.getElem?_eq_some_iff.1 HR52.out).1⟩
    clear hrow5 k4 z4 hW5
    cases po with
    | none =>
      obtain rfl : pc = 0 := HA.out.p0 rfl
      obtain rfl : pn = 0 := by have := HA.out.p1; simp only at this; omega
      obtain rfl : q = 0 := by omega
      have HOW5 : Hid (W5.ownsRow W2.heap.size 5 1 (.slice ao4 tn c4) tn (cellsOf bt)) := HOW.out
      have k6 := cell_kept (bel_alloc W5 (Obj.cells #[] 46)) HZ5.out.1 k5
      clear k5
      go_wp2_with (at_builtin; refine Sm.wpList_append_path _ rfl (.tmp 13) (.tmp 20) rfl W5.heap.size (.slice (some ⟨W5.heap.size, 0, none⟩) 0 0) [] rfl (own_digs0 W5) (bel_alloc W5 _).size none 0 0 (ds.take 0) rfl (pathv_take (HA5.out.path.below (bel_alloc W5 _) (Nat.le_refl _)) 0) (by have := HA.out.len; have := HQ.out; simp only at *; rw [List.length_take]; omega) (fun _ => rfl) (by have := HQ.out; simp only [List.length_nil, List.length_take]; omega) ?_)
      intro v6 w6 hdg6 hbel6
      have hdg7 : Sm.DgO w6 W5.heap.size v6 (ds.take 0) := hdg6
      obtain ⟨po7, pc7, hv7, -⟩ := dgo_path hdg7
      obtain ⟨ql, HQL⟩ : ∃ x, Hid ((ds.take 0).length = x) := ⟨_, rfl⟩
      rw [HQL.out] at hv7
      subst hv7
      have HB6 : Hid (Below W5.heap.size W5 w6) := (bel_alloc W5 _).trans hbel6
      have hrow6 := (HB6.out.block w.heap.size HZ5.out.1).trans HR5.out
      have hrow7 := (HB6.out.block (w.heap.size + 1) HZ5.out.2).trans HR52.out
      have z6 : w6.frozen? ⟨w.heap.size, 2, none⟩ = false := frozen_of_row w6 _ 2 _ 30 hrow6
      have k7 : w6.cell? ⟨w.heap.size, 2, none⟩ = some (.slice none 0 0) := by rw [cell_of_row _ _ _ _ _ _ hrow6]; rfl
      have HR8 : Hid ((w6.setCell ⟨w.heap.size, 2, none⟩ (.slice po7 ql pc7)).heap[w.heap.size]? = some (.cells #[.int .i64 at0, .slice ao4 tn c4, (.slice po7 ql pc7)] 30 (0, 0))) := heap_set w6 _ 2 _ _ _ hrow6
      have HR9 : Hid ((w6.setCell ⟨w.heap.size, 2, none⟩ (.slice po7 ql pc7)).heap[w.heap.size + 1]? = some (.cells zeroOC 30 (0, 0))) := (Below.heap_setCell _ _ _ _ (by show w.heap.size + 1 ≠ w.heap.size; omega)).trans hrow7
      have HOW6 : Hid ((w6.setCell ⟨w.heap.size, 2, none⟩ (.slice po7 ql pc7)).ownsRow W2.heap.size 5 1 (.slice ao4 tn c4) tn (cellsOf bt)) := own_setlow (own_below HOW5.out HB6.out (Nat.le_refl _)) (by have := HF2.out.2.2.2; omega)
      have HDG6 : Hid (Sm.DgO (w6.setCell ⟨w.heap.size, 2, none⟩ (.slice po7 ql pc7)) W5.heap.size (.slice po7 ql pc7) (ds.take 0)) := ⟨own_setlow hdg7.1 HZ5.out.1, hdg7.2⟩
      have HB8 : Hid (Below w.heap.size w (w6.setCell ⟨w.heap.size, 2, none⟩ (.slice po7 ql pc7))) := (HB5.out.trans (HB6.out.mono HB5.out.size)).setCell (Nat.le_refl _) _
      clear hdg6 hdg7 hbel6 hrow6 hrow7
      go_upto_region 3 with fail
      generalize hW8 : w6.setCell ⟨w.heap.size, 2, none⟩ (.slice po7 ql pc7) = W8 at *
      go_wp2_with (first | (refine wpList_load_row rfl 30 (.tmp 1) rfl w.heap.size rfl 30 #[.int .i64 at0, .slice ao4 tn c4, (.slice po7 ql pc7)] (0, 0) _ HR8.out Tryd.underlying30 rfl size30 ?_) | (refine wpList_store_row rfl 30 (.tmp 2) (.tmp 23) rfl (w.heap.size + 1) #[.int .i64 at0, .slice ao4 tn c4, (.slice po7 ql pc7)] rfl rfl 30 zeroOC HR9.out size30 rfl (by exact one3 _ _ _ _ _ _ _) ?_))
      (try simp only [Exit.inBlock, Exit.then])
      refine bodyPost_ret (results_cell_row rfl _ _ (w.heap.size + 1) 30 #[.int .i64 at0, .slice ao4 tn c4, (.slice po7 ql pc7)] (0, 0) _ rfl (setRow_heap _ _ _ _ _ _ HR9.out) Tryd.underlying30 rfl size30) rfl ?_
      obtain ⟨ao9, c9, hv9, hb9, h09, hl9, hc9, hn9, hlow9⟩ := own_bytes (own_rowlow (g := w.heap.size + 1) (cs := #[.int .i64 at0, .slice ao4 tn c4, (.slice po7 ql pc7)]) HOW6.out (by have := HF2.out.2.2.2; omega))
      cases hv9
      obtain ⟨pox, pcx, hvx, hplx, hpcx, hpvx, hplow⟩ := dgo_path (show Sm.DgO (W8.setRow (w.heap.size + 1) #[.int .i64 at0, .slice ao4 tn c4, (.slice po7 ql pc7)]) W5.heap.size (.slice po7 ql pc7) (ds.take 0) from ⟨own_rowlow HDG6.out.1 HZ5.out.2, HDG6.out.2⟩)
      rw [HQL.out] at hvx hplx
      cases hvx
      have hbl : bt.length ≤ 1300 := by rw [← HBT.out, List.length_take]; have := HM.out; omega
      have hql : (ds.take 0).length ≤ 20 := by rw [List.length_take]; have := HQ.out; omega
      refine ⟨⟨at0, ao4, tn, c4, bt, po7, ql, pc7, ds.take 0⟩, rfl, ⟨hb9, h09, hl9, by unfold maxLen at hc9; show c4 ≤ _; omega, by show tn ≤ _; omega, HQL.out, hplx, hpcx, hpvx⟩, ⟨rfl, ?_, ?_⟩, by show tn ≤ _; omega, by rw [HQL.out] at hql; exact hql, ⟨fun x hx => by have := (hlow9 x hx).1; have := HF2.out.2.2.2; omega, fun x hx => by have := hplow x hx; have := HZ5.out.2; omega⟩, below_setRow HB8.out (by omega) _⟩
      · show bt = bs.take 1300
        rw [← HBT.out]
        have h1 := HA.out.leaf.1
        have h2 := HM.out
        simp only at h1
        rw [List.eq_nil_of_length_eq_zero h1]; simp
      · show ds.take 0 = ds.take 20
        have h1 := HA.out.len
        have h2 := HQ.out
        simp only at h1
        rw [List.eq_nil_of_length_eq_zero h1]; simp
    | some pd =>
      have HOW5 : Hid (W5.ownsRow W2.heap.size 5 1 (.slice ao4 tn c4) tn (cellsOf bt)) := HOW.out
      have k6 := cell_kept (bel_alloc W5 (Obj.cells #[] 46)) HZ5.out.1 k5
      clear k5
      go_wp2_with (at_builtin; refine Sm.wpList_append_path _ rfl (.tmp 13) (.tmp 20) rfl W5.heap.size (.slice (some ⟨W5.heap.size, 0, none⟩) 0 0) [] rfl (own_digs0 W5) (bel_alloc W5 _).size (some pd) q pc (ds.take q) rfl (pathv_take (HA5.out.path.below (bel_alloc W5 _) (Nat.le_refl _)) q) (by have := HA.out.len; have := HQ.out; simp only at *; rw [List.length_take]; omega) (fun h => by cases h) (by have := HQ.out; simp only [List.length_nil, List.length_take]; omega) ?_)
      intro v6 w6 hdg6 hbel6
      have hdg7 : Sm.DgO w6 W5.heap.size v6 (ds.take q) := hdg6
      obtain ⟨po7, pc7, hv7, -⟩ := dgo_path hdg7
      obtain ⟨ql, HQL⟩ : ∃ x, Hid ((ds.take q).length = x) := ⟨_, rfl⟩
      rw [HQL.out] at hv7
      subst hv7
      have HB6 : Hid (Below W5.heap.size W5 w6) := (bel_alloc W5 _).trans hbel6
      have hrow6 := (HB6.out.block w.heap.size HZ5.out.1).trans HR5.out
      have hrow7 := (HB6.out.block (w.heap.size + 1) HZ5.out.2).trans HR52.out
      have z6 : w6.frozen? ⟨w.heap.size, 2, none⟩ = false := frozen_of_row w6 _ 2 _ 30 hrow6
      have k7 : w6.cell? ⟨w.heap.size, 2, none⟩ = some (.slice (some pd) pn pc) := by rw [cell_of_row _ _ _ _ _ _ hrow6]; rfl
      have HR8 : Hid ((w6.setCell ⟨w.heap.size, 2, none⟩ (.slice po7 ql pc7)).heap[w.heap.size]? = some (.cells #[.int .i64 at0, .slice ao4 tn c4, (.slice po7 ql pc7)] 30 (0, 0))) := heap_set w6 _ 2 _ _ _ hrow6
      have HR9 : Hid ((w6.setCell ⟨w.heap.size, 2, none⟩ (.slice po7 ql pc7)).heap[w.heap.size + 1]? = some (.cells zeroOC 30 (0, 0))) := (Below.heap_setCell _ _ _ _ (by show w.heap.size + 1 ≠ w.heap.size; omega)).trans hrow7
      have HOW6 : Hid ((w6.setCell ⟨w.heap.size, 2, none⟩ (.slice po7 ql pc7)).ownsRow W2.heap.size 5 1 (.slice ao4 tn c4) tn (cellsOf bt)) := own_setlow (own_below HOW5.out HB6.out (Nat.le_refl _)) (by have := HF2.out.2.2.2; omega)
      have HDG6 : Hid (Sm.DgO (w6.setCell ⟨w.heap.size, 2, none⟩ (.slice po7 ql pc7)) W5.heap.size (.slice po7 ql pc7) (ds.take q)) := ⟨own_setlow hdg7.1 HZ5.out.1, hdg7.2⟩
      have HB8 : Hid (Below w.heap.size w (w6.setCell ⟨w.heap.size, 2, none⟩ (.slice po7 ql pc7))) := (HB5.out.trans (HB6.out.mono HB5.out.size)).setCell (Nat.le_refl _) _
      clear hdg6 hdg7 hbel6 hrow6 hrow7
      go_upto_region 3 with fail
      generalize hW8 : w6.setCell ⟨w.heap.size, 2, none⟩ (.slice po7 ql pc7) = W8 at *
      go_wp2_with (first | (refine wpList_load_row rfl 30 (.tmp 1) rfl w.heap.size rfl 30 #[.int .i64 at0, .slice ao4 tn c4, (.slice po7 ql pc7)] (0, 0) _ HR8.out Tryd.underlying30 rfl size30 ?_) | (refine wpList_store_row rfl 30 (.tmp 2) (.tmp 23) rfl (w.heap.size + 1) #[.int .i64 at0, .slice ao4 tn c4, (.slice po7 ql pc7)] rfl rfl 30 zeroOC HR9.out size30 rfl (by exact one3 _ _ _ _ _ _ _) ?_))
      (try simp only [Exit.inBlock, Exit.then])
      refine bodyPost_ret (results_cell_row rfl _ _ (w.heap.size + 1) 30 #[.int .i64 at0, .slice ao4 tn c4, (.slice po7 ql pc7)] (0, 0) _ rfl (setRow_heap _ _ _ _ _ _ HR9.out) Tryd.underlying30 rfl size30) rfl ?_
      obtain ⟨ao9, c9, hv9, hb9, h09, hl9, hc9, hn9, hlow9⟩ := own_bytes (own_rowlow (g := w.heap.size + 1) (cs := #[.int .i64 at0, .slice ao4 tn c4, (.slice po7 ql pc7)]) HOW6.out (by have := HF2.out.2.2.2; omega))
      cases hv9
      obtain ⟨pox, pcx, hvx, hplx, hpcx, hpvx, hplow⟩ := dgo_path (show Sm.DgO (W8.setRow (w.heap.size + 1) #[.int .i64 at0, .slice ao4 tn c4, (.slice po7 ql pc7)]) W5.heap.size (.slice po7 ql pc7) (ds.take q) from ⟨own_rowlow HDG6.out.1 HZ5.out.2, HDG6.out.2⟩)
      rw [HQL.out] at hvx hplx
      cases hvx
      have hbl : bt.length ≤ 1300 := by rw [← HBT.out, List.length_take]; have := HM.out; omega
      have hql : (ds.take q).length ≤ 20 := by rw [List.length_take]; have := HQ.out; omega
      refine ⟨⟨at0, ao4, tn, c4, bt, po7, ql, pc7, ds.take q⟩, rfl, ⟨hb9, h09, hl9, by unfold maxLen at hc9; show c4 ≤ _; omega, by show tn ≤ _; omega, HQL.out, hplx, hpcx, hpvx⟩, ⟨rfl, ?_, ?_⟩, by show tn ≤ _; omega, by rw [HQL.out] at hql; exact hql, ⟨fun x hx => by have := (hlow9 x hx).1; have := HF2.out.2.2.2; omega, fun x hx => by have := hplow x hx; have := HZ5.out.2; omega⟩, below_setRow HB8.out (by omega) _⟩
      · show bt = bs.take 1300
        rw [← HBT.out]
        have h1 := HA.out.leaf.1
        have h2 := HM.out
        simp only at h1
        rw [List.eq_nil_of_length_eq_zero h1]; simp
      · show ds.take q = ds.take 20
        have h1 := HA.out.len
        have h2 := HQ.out
        simp only at h1
        rcases Nat.le_total pn 20 with h | h
        · rw [List.take_of_length_le (by omega), List.take_of_length_le (by omega)]
        · rw [show q = 20 by omega]
  | some ad =>
    have c1 := cell_kept (bel_alloc W2 (Obj.cells #[] 5)) (by have := HF2.out.2.2.2; omega) c0
    clear c0
    go_wp2_with (at_builtin; refine wpList_append_bytes _ rfl (.tmp 3) (.tmp 10) rfl W2.heap.size (.slice (some ⟨W2.heap.size, 0, none⟩) 0 0) 0 [] rfl (own_empty W2) (bel_alloc W2 _).size (some ad) m lc (bs.take m) rfl (bytes_take (bytes_kept HA2.out.leaf (bel_alloc W2 _) (Nat.le_refl _)) m (by have := HM.out; show m ≤ ln; omega)) (fun h => by cases h) (by have := HM.out; omega) ?_)
    intro v4 w4 hown4 hbel4
    have hown5 : w4.ownsRow W2.heap.size 5 1 v4 (bs.take m).length (cellsOf (bs.take m)) := by first | exact hown4 | (rw [List.length_take]; exact hown4)
    obtain ⟨ao4, c4, hv4, -⟩ := own_bytes hown5
    have HB4 : Hid (Below W2.heap.size W2 w4) := (bel_alloc W2 _).trans hbel4
    have hrow4 := (HB4.out.block w.heap.size (by have := HF2.out.2.2.2; omega)).trans HRW.out
    have hrow42 := (HB4.out.block (w.heap.size + 1) (by have := HF2.out.2.2.2; omega)).trans HF2.out.2.1
    have z4 : w4.frozen? ⟨w.heap.size, 1, none⟩ = false := frozen_of_row w4 _ 1 _ 30 hrow4
    have k4 : w4.cell? ⟨w.heap.size, 1, none⟩ = some (.slice (some ad) ln lc) := by rw [cell_of_row _ _ _ _ _ _ hrow4]; rfl
    subst hv4
    obtain ⟨bt, HBT⟩ : ∃ x, Hid (bs.take m = x) := ⟨_, rfl⟩
    rw [HBT.out] at hown5
    rw [HBT.out]
    obtain ⟨tn, HTN⟩ : ∃ x, Hid (bt.length = x) := ⟨_, rfl⟩
    rw [HTN.out] at hown5
    rw [HTN.out]
    have HR5 : Hid ((w4.setCell ⟨w.heap.size, 1, none⟩ (.slice ao4 tn c4)).heap[w.heap.size]? = some (.cells #[.int .i64 at0, .slice ao4 tn c4, .slice po pn pc] 30 (0, 0))) := heap_set w4 _ 1 _ _ _ hrow4
    have HR52 : Hid ((w4.setCell ⟨w.heap.size, 1, none⟩ (.slice ao4 tn c4)).heap[w.heap.size + 1]? = some (.cells zeroOC 30 (0, 0))) := (Below.heap_setCell _ _ _ _ (by show w.heap.size + 1 ≠ w.heap.size; omega)).trans hrow42
    have HB5 : Hid (Below w.heap.size w (w4.setCell ⟨w.heap.size, 1, none⟩ (.slice ao4 tn c4))) := (HF2.out.2.2.1.trans (HB4.out.mono HF2.out.2.2.1.size)).setCell (Nat.le_refl _) _
    have HOW : Hid ((w4.setCell ⟨w.heap.size, 1, none⟩ (.slice ao4 tn c4)).ownsRow W2.heap.size 5 1 (.slice ao4 tn c4) tn (cellsOf bt)) := own_setlow hown5 (by have := HF2.out.2.2.2; omega)
    clear hown4 hown5 hbel4 hrow4 hrow42
    go_upto_region 2 with fail
    generalize hW5 : w4.setCell ⟨w.heap.size, 1, none⟩ (.slice ao4 tn c4) = W5 at *
    have HA5 : Hid (OpnA W5 ⟨at0, (some ad), ln, lc, bs, po, pn, pc, ds⟩) := HA.out.keep HB5.out
    have hrow5 := HR5.out
    have k5 : W5.cell? ⟨w.heap.size, 2, none⟩ = some (.slice po pn pc) := by rw [cell_of_row _ _ _ _ _ _ hrow5]; rfl
    have HZ5 : Hid (w.heap.size < W5.heap.size ∧ w.heap.size + 1 < W5.heap.size) := ⟨(Array.getElem?_eq_some_iff.1 HR5.out).1, (Array.getElem?_eq_some_iff.1 HR52.out).1⟩
    clear hrow5 k4 z4 hW5
    cases po with
    | none =>
      obtain rfl : pc = 0 := HA.out.p0 rfl
      obtain rfl : pn = 0 := by have := HA.out.p1; simp only at this; omega
      obtain rfl : q = 0 := by omega
      have HOW5 : Hid (W5.ownsRow W2.heap.size 5 1 (.slice ao4 tn c4) tn (cellsOf bt)) := HOW.out
      have k6 := cell_kept (bel_alloc W5 (Obj.cells #[] 46)) HZ5.out.1 k5
      clear k5
      go_wp2_with (at_builtin; refine Sm.wpList_append_path _ rfl (.tmp 13) (.tmp 20) rfl W5.heap.size (.slice (some ⟨W5.heap.size, 0, none⟩) 0 0) [] rfl (own_digs0 W5) (bel_alloc W5 _).size none 0 0 (ds.take 0) rfl (pathv_take (HA5.out.path.below (bel_alloc W5 _) (Nat.le_refl _)) 0) (by have := HA.out.len; have := HQ.out; simp only at *; rw [List.length_take]; omega) (fun _ => rfl) (by have := HQ.out; simp only [List.length_nil, List.length_take]; omega) ?_)
      intro v6 w6 hdg6 hbel6
      have hdg7 : Sm.DgO w6 W5.heap.size v6 (ds.take 0) := hdg6
      obtain ⟨po7, pc7, hv7, -⟩ := dgo_path hdg7
      obtain ⟨ql, HQL⟩ : ∃ x, Hid ((ds.take 0).length = x) := ⟨_, rfl⟩
      rw [HQL.out] at hv7
      subst hv7
      have HB6 : Hid (Below W5.heap.size W5 w6) := (bel_alloc W5 _).trans hbel6
      have hrow6 := (HB6.out.block w.heap.size HZ5.out.1).trans HR5.out
      have hrow7 := (HB6.out.block (w.heap.size + 1) HZ5.out.2).trans HR52.out
      have z6 : w6.frozen? ⟨w.heap.size, 2, none⟩ = false := frozen_of_row w6 _ 2 _ 30 hrow6
      have k7 : w6.cell? ⟨w.heap.size, 2, none⟩ = some (.slice none 0 0) := by rw [cell_of_row _ _ _ _ _ _ hrow6]; rfl
      have HR8 : Hid ((w6.setCell ⟨w.heap.size, 2, none⟩ (.slice po7 ql pc7)).heap[w.heap.size]? = some (.cells #[.int .i64 at0, .slice ao4 tn c4, (.slice po7 ql pc7)] 30 (0, 0))) := heap_set w6 _ 2 _ _ _ hrow6
      have HR9 : Hid ((w6.setCell ⟨w.heap.size, 2, none⟩ (.slice po7 ql pc7)).heap[w.heap.size + 1]? = some (.cells zeroOC 30 (0, 0))) := (Below.heap_setCell _ _ _ _ (by show w.heap.size + 1 ≠ w.heap.size; omega)).trans hrow7
      have HOW6 : Hid ((w6.setCell ⟨w.heap.size, 2, none⟩ (.slice po7 ql pc7)).ownsRow W2.heap.size 5 1 (.slice ao4 tn c4) tn (cellsOf bt)) := own_setlow (own_below HOW5.out HB6.out (Nat.le_refl _)) (by have := HF2.out.2.2.2; omega)
      have HDG6 : Hid (Sm.DgO (w6.setCell ⟨w.heap.size, 2, none⟩ (.slice po7 ql pc7)) W5.heap.size (.slice po7 ql pc7) (ds.take 0)) := ⟨own_setlow hdg7.1 HZ5.out.1, hdg7.2⟩
      have HB8 : Hid (Below w.heap.size w (w6.setCell ⟨w.heap.size, 2, none⟩ (.slice po7 ql pc7))) := (HB5.out.trans (HB6.out.mono HB5.out.size)).setCell (Nat.le_refl _) _
      clear hdg6 hdg7 hbel6 hrow6 hrow7
      go_upto_region 3 with fail
      generalize hW8 : w6.setCell ⟨w.heap.size, 2, none⟩ (.slice po7 ql pc7) = W8 at *
      go_wp2_with (first | (refine wpList_load_row rfl 30 (.tmp 1) rfl w.heap.size rfl 30 #[.int .i64 at0, .slice ao4 tn c4, (.slice po7 ql pc7)] (0, 0) _ HR8.out Tryd.underlying30 rfl size30 ?_) | (refine wpList_store_row rfl 30 (.tmp 2) (.tmp 23) rfl (w.heap.size + 1) #[.int .i64 at0, .slice ao4 tn c4, (.slice po7 ql pc7)] rfl rfl 30 zeroOC HR9.out size30 rfl (by exact one3 _ _ _ _ _ _ _) ?_))
      (try simp only [Exit.inBlock, Exit.then])
      refine bodyPost_ret (results_cell_row rfl _ _ (w.heap.size + 1) 30 #[.int .i64 at0, .slice ao4 tn c4, (.slice po7 ql pc7)] (0, 0) _ rfl (setRow_heap _ _ _ _ _ _ HR9.out) Tryd.underlying30 rfl size30) rfl ?_
      obtain ⟨ao9, c9, hv9, hb9, h09, hl9, hc9, hn9, hlow9⟩ := own_bytes (own_rowlow (g := w.heap.size + 1) (cs := #[.int .i64 at0, .slice ao4 tn c4, (.slice po7 ql pc7)]) HOW6.out (by have := HF2.out.2.2.2; omega))
      cases hv9
      obtain ⟨pox, pcx, hvx, hplx, hpcx, hpvx, hplow⟩ := dgo_path (show Sm.DgO (W8.setRow (w.heap.size + 1) #[.int .i64 at0, .slice ao4 tn c4, (.slice po7 ql pc7)]) W5.heap.size (.slice po7 ql pc7) (ds.take 0) from ⟨own_rowlow HDG6.out.1 HZ5.out.2, HDG6.out.2⟩)
      rw [HQL.out] at hvx hplx
      cases hvx
      have hbl : bt.length ≤ 1300 := by rw [← HBT.out, List.length_take]; have := HM.out; omega
      have hql : (ds.take 0).length ≤ 20 := by rw [List.length_take]; have := HQ.out; omega
      refine ⟨⟨at0, ao4, tn, c4, bt, po7, ql, pc7, ds.take 0⟩, rfl, ⟨hb9, h09, hl9, by unfold maxLen at hc9; show c4 ≤ _; omega, by show tn ≤ _; omega, HQL.out, hplx, hpcx, hpvx⟩, ⟨rfl, ?_, ?_⟩, by show tn ≤ _; omega, by rw [HQL.out] at hql; exact hql, ⟨fun x hx => by have := (hlow9 x hx).1; have := HF2.out.2.2.2; omega, fun x hx => by have := hplow x hx; have := HZ5.out.2; omega⟩, below_setRow HB8.out (by omega) _⟩
      · show bt = bs.take 1300
        rw [← HBT.out]
        have h1 := HA.out.leaf.1
        have h2 := HM.out
        simp only at h1
        rcases Nat.le_total ln 1300 with h | h
        · rw [List.take_of_length_le (by omega), List.take_of_length_le (by omega)]
        · rw [show m = 1300 by omega]
      · show ds.take 0 = ds.take 20
        have h1 := HA.out.len
        have h2 := HQ.out
        simp only at h1
        rw [List.eq_nil_of_length_eq_zero h1]; simp
    | some pd =>
      have HOW5 : Hid (W5.ownsRow W2.heap.size 5 1 (.slice ao4 tn c4) tn (cellsOf bt)) := HOW.out
      have k6 := cell_kept (bel_alloc W5 (Obj.cells #[] 46)) HZ5.out.1 k5
      clear k5
      go_wp2_with (at_builtin; refine Sm.wpList_append_path _ rfl (.tmp 13) (.tmp 20) rfl W5.heap.size (.slice (some ⟨W5.heap.size, 0, none⟩) 0 0) [] rfl (own_digs0 W5) (bel_alloc W5 _).size (some pd) q pc (ds.take q) rfl (pathv_take (HA5.out.path.below (bel_alloc W5 _) (Nat.le_refl _)) q) (by have := HA.out.len; have := HQ.out; simp only at *; rw [List.length_take]; omega) (fun h => by cases h) (by have := HQ.out; simp only [List.length_nil, List.length_take]; omega) ?_)
      intro v6 w6 hdg6 hbel6
      have hdg7 : Sm.DgO w6 W5.heap.size v6 (ds.take q) := hdg6
      obtain ⟨po7, pc7, hv7, -⟩ := dgo_path hdg7
      obtain ⟨ql, HQL⟩ : ∃ x, Hid ((ds.take q).length = x) := ⟨_, rfl⟩
      rw [HQL.out] at hv7
      subst hv7
      have HB6 : Hid (Below W5.heap.size W5 w6) := (bel_alloc W5 _).trans hbel6
      have hrow6 := (HB6.out.block w.heap.size HZ5.out.1).trans HR5.out
      have hrow7 := (HB6.out.block (w.heap.size + 1) HZ5.out.2).trans HR52.out
      have z6 : w6.frozen? ⟨w.heap.size, 2, none⟩ = false := frozen_of_row w6 _ 2 _ 30 hrow6
      have k7 : w6.cell? ⟨w.heap.size, 2, none⟩ = some (.slice (some pd) pn pc) := by rw [cell_of_row _ _ _ _ _ _ hrow6]; rfl
      have HR8 : Hid ((w6.setCell ⟨w.heap.size, 2, none⟩ (.slice po7 ql pc7)).heap[w.heap.size]? = some (.cells #[.int .i64 at0, .slice ao4 tn c4, (.slice po7 ql pc7)] 30 (0, 0))) := heap_set w6 _ 2 _ _ _ hrow6
      have HR9 : Hid ((w6.setCell ⟨w.heap.size, 2, none⟩ (.slice po7 ql pc7)).heap[w.heap.size + 1]? = some (.cells zeroOC 30 (0, 0))) := (Below.heap_setCell _ _ _ _ (by show w.heap.size + 1 ≠ w.heap.size; omega)).trans hrow7
      have HOW6 : Hid ((w6.setCell ⟨w.heap.size, 2, none⟩ (.slice po7 ql pc7)).ownsRow W2.heap.size 5 1 (.slice ao4 tn c4) tn (cellsOf bt)) := own_setlow (own_below HOW5.out HB6.out (Nat.le_refl _)) (by have := HF2.out.2.2.2; omega)
      have HDG6 : Hid (Sm.DgO (w6.setCell ⟨w.heap.size, 2, none⟩ (.slice po7 ql pc7)) W5.heap.size (.slice po7 ql pc7) (ds.take q)) := ⟨own_setlow hdg7.1 HZ5.out.1, hdg7.2⟩
      have HB8 : Hid (Below w.heap.size w (w6.setCell ⟨w.heap.size, 2, none⟩ (.slice po7 ql pc7))) := (HB5.out.trans (HB6.out.mono HB5.out.size)).setCell (Nat.le_refl _) _
      clear hdg6 hdg7 hbel6 hrow6 hrow7
      go_upto_region 3 with fail
      generalize hW8 : w6.setCell ⟨w.heap.size, 2, none⟩ (.slice po7 ql pc7) = W8 at *
      go_wp2_with (first | (refine wpList_load_row rfl 30 (.tmp 1) rfl w.heap.size rfl 30 #[.int .i64 at0, .slice ao4 tn c4, (.slice po7 ql pc7)] (0, 0) _ HR8.out Tryd.underlying30 rfl size30 ?_) | (refine wpList_store_row rfl 30 (.tmp 2) (.tmp 23) rfl (w.heap.size + 1) #[.int .i64 at0, .slice ao4 tn c4, (.slice po7 ql pc7)] rfl rfl 30 zeroOC HR9.out size30 rfl (by exact one3 _ _ _ _ _ _ _) ?_))
      (try simp only [Exit.inBlock, Exit.then])
      refine bodyPost_ret (results_cell_row rfl _ _ (w.heap.size + 1) 30 #[.int .i64 at0, .slice ao4 tn c4, (.slice po7 ql pc7)] (0, 0) _ rfl (setRow_heap _ _ _ _ _ _ HR9.out) Tryd.underlying30 rfl size30) rfl ?_
      obtain ⟨ao9, c9, hv9, hb9, h09, hl9, hc9, hn9, hlow9⟩ := own_bytes (own_rowlow (g := w.heap.size + 1) (cs := #[.int .i64 at0, .slice ao4 tn c4, (.slice po7 ql pc7)]) HOW6.out (by have := HF2.out.2.2.2; omega))
      cases hv9
      obtain ⟨pox, pcx, hvx, hplx, hpcx, hpvx, hplow⟩ := dgo_path (show Sm.DgO (W8.setRow (w.heap.size + 1) #[.int .i64 at0, .slice ao4 tn c4, (.slice po7 ql pc7)]) W5.heap.size (.slice po7 ql pc7) (ds.take q) from ⟨own_rowlow HDG6.out.1 HZ5.out.2, HDG6.out.2⟩)
      rw [HQL.out] at hvx hplx
      cases hvx
      have hbl : bt.length ≤ 1300 := by rw [← HBT.out, List.length_take]; have := HM.out; omega
      have hql : (ds.take q).length ≤ 20 := by rw [List.length_take]; have := HQ.out; omega
      refine ⟨⟨at0, ao4, tn, c4, bt, po7, ql, pc7, ds.take q⟩, rfl, ⟨hb9, h09, hl9, by unfold maxLen at hc9; show c4 ≤ _; omega, by show tn ≤ _; omega, HQL.out, hplx, hpcx, hpvx⟩, ⟨rfl, ?_, ?_⟩, by show tn ≤ _; omega, by rw [HQL.out] at hql; exact hql, ⟨fun x hx => by have := (hlow9 x hx).1; have := HF2.out.2.2.2; omega, fun x hx => by have := hplow x hx; have := HZ5.out.2; omega⟩, below_setRow HB8.out (by omega) _⟩
      · show bt = bs.take 1300
        rw [← HBT.out]
        have h1 := HA.out.leaf.1
        have h2 := HM.out
        simp only at h1
        rcases Nat.le_total ln 1300 with h | h
        · rw [List.take_of_length_le (by omega), List.take_of_length_le (by omega)]
        · rw [show m = 1300 by omega]
      · show ds.take q = ds.take 20
        have h1 := HA.out.len
        have h2 := HQ.out
        simp only at h1
        rcases Nat.le_total pn 20 with h | h
        · rw [List.take_of_length_le (by omega), List.take_of_length_le (by omega)]
        · rw [show q = 20 by omega]
end Go.Proofs.YtecacjddggljgaaDoor
