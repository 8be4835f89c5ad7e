/-
  Tables in memory: cells, loads, stores and appends over this translation.
-/
import Derived.Test.YtnkbhojflcckmaaPkM
namespace Go.Proofs.Ytnkbhojflcckmaa
open Go.RowKit
set_option linter.unusedSectionVars false
theorem size32 : (Try.prog.info? 32).map (·.size) = some 36 := by kernel_rfl
theorem info32 : (Try.prog.info? 32).map (fun i => (i.zero, i.size, i.bytes)) = some (some (.agg (encT zT).toArray), 36, 80) := by kernel_rfl
theorem sizeT (x : Tb) : (Try.prog.info? 32).map (·.size) = some (encT x).length := by rw [size32, encT_len]
theorem sizeTA (x : Tb) : (Try.prog.info? 32).map (·.size) = some (encT x).toArray.size := by rw [size32, List.size_toArray, encT_len]
theorem allT (x : Tb) : (encT x).toArray.all (·.oneCell') = true := all_oneCell_toArray (encT_one x)
/-- The cells of tables lie at b, off. -/
def Tabs (w : World) (b off : Nat) (ts : List Tb) : Prop := ∀ j u, (flatT ts)[j]? = some u → w.cell? ⟨b, off + j, none⟩ = some u
theorem Tabs.below {w w' : World} {b off B : Nat} {ts : List Tb} (h : Tabs w b off ts) (hb : Below B w w') (hB : w.heap.size ≤ B) : Tabs w' b off ts := fun j u hu => by
  have h1 := h j u hu
  rw [← h1]
  exact World.cell?_of_block (hb.block b (by have := World.block_lt_of_cell? w _ h1; exact Nat.lt_of_lt_of_le this hB))
theorem tabs_range {w : World} {b off : Nat} {ts : List Tb} (h : Tabs w b off ts) (i : Nat) (hi : i < ts.length) {x : Tb} (hx : ts.getD i zT = x) : w.rangeAt b (off + i * 36) (encT x) := fun j v hv => by
  have hj : j < 36 := by have := (List.getElem?_eq_some_iff.1 hv).1; rwa [encT_len] at this
  have := h (i * 36 + j) v (by rw [flatT_at ts i j hi hj, hx]; exact hv)
  rwa [← Nat.add_assoc] at this
theorem range_four {w : World} {b o : Nat} {x : Tb} (h : w.rangeAt b o (encT x)) : w.cell? ⟨b, o, none⟩ = some (.int .i64 x.lv) ∧ w.cell? ⟨b, o + 1, none⟩ = some (.int .i64 x.ct) ∧ w.cell? ⟨b, o + 34, none⟩ = some (.string x.first) ∧ w.cell? ⟨b, o + 35, none⟩ = some (.string x.last) :=
  ⟨h 0 _ (encT_0 x), h 1 _ (encT_1 x), h 34 _ (encT_34 x), h 35 _ (encT_35 x)⟩
/-- The cells of tables lie in a slice. -/
def TabsV (w : World) (ao : Option Addr) (n : Nat) (ts : List Tb) : Prop := ts.length = n ∧ (0 < n → ∃ b off, ao = some ⟨b, off, none⟩ ∧ Tabs w b off ts)
theorem TabsV.below {w w' : World} {ao : Option Addr} {n B : Nat} {ts : List Tb} (h : TabsV w ao n ts) (hb : Below B w w') (hB : w.heap.size ≤ B) : TabsV w' ao n ts :=
  ⟨h.1, fun hp => by obtain ⟨b, off, h1, h2⟩ := h.2 hp; exact ⟨b, off, h1, h2.below hb hB⟩⟩
theorem TabsV.keep {w w' : World} {ao : Option Addr} {n : Nat} {ts : List Tb} (h : TabsV w ao n ts) (hb : Below w.heap.size w w') : TabsV w' ao n ts := h.below hb (Nat.le_refl _)
theorem tabsV_nil (w : World) (ao : Option Addr) : TabsV w ao 0 [] := ⟨rfl, fun h => absurd h (by omega)⟩
/-- A row of the call's own, read. -/
theorem own_tabsV {w : World} {base : Nat} {v : Value} {n : Nat} {ts : List Tb} (h : w.ownsRow base 32 36 v n (flatT ts)) : ∃ ao c, v = .slice ao n c ∧ TabsV w ao n ts ∧ (ao = none → c = 0) ∧ n ≤ c ∧ c ≤ 9223372036854775807 ∧ n = ts.length := by
  have hl : n = ts.length := by have := h.1; rw [flatT_len] at this; omega
  rcases h.2 with ⟨rfl, h0⟩ | ⟨g, cap, cur, rfl, hb, hg, hn, hm, hs, ht⟩
  · exact ⟨none, 0, by rw [h0], ⟨hl.symm, fun hp => absurd hp (by omega)⟩, fun _ => rfl, by omega, by omega, hl⟩
  · refine ⟨_, cap, rfl, ⟨hl.symm, fun _ => ⟨g, 0, rfl, fun j u hu => ?_⟩⟩, fun h => (by cases h), hn, by unfold maxLen at hm; omega, hl⟩
    have := h.cells (g := g) rfl j u hu
    rwa [Addr.add_lit] at this
/-- One table by itself in a block. -/
def Box (w : World) (g : Nat) (x : Tb) : Prop := w.heap[g]? = some (.cells (encT x).toArray 32 (0, 0))
theorem Box.at_ {w : World} {g : Nat} {x : Tb} (h : Box w g x) {i : Nat} {v : Value} (hv : (encT x)[i]? = some v) : w.cell? ⟨g, i, none⟩ = some v := by
  rw [cell_of_row _ _ _ _ _ _ h]; simpa using hv
theorem Box.four {w : World} {g : Nat} {x : Tb} (h : Box w g x) : w.cell? ⟨g, 0, none⟩ = some (.int .i64 x.lv) ∧ w.cell? ⟨g, 1, none⟩ = some (.int .i64 x.ct) ∧ w.cell? ⟨g, 34, none⟩ = some (.string x.first) ∧ w.cell? ⟨g, 35, none⟩ = some (.string x.last) :=
  ⟨h.at_ (encT_0 x), h.at_ (encT_1 x), h.at_ (encT_34 x), h.at_ (encT_35 x)⟩
theorem Box.lt {w : World} {g : Nat} {x : Tb} (h : Box w g x) : g < w.heap.size := (Array.getElem?_eq_some_iff.1 h).1
theorem Box.below {w w' : World} {g B : Nat} {x : Tb} (h : Box w g x) (hb : Below B w w') (hB : g < B) : Box w' g x := (hb.block g hB).trans h
theorem Box.keep {w w' : World} {g : Nat} {x : Tb} (h : Box w g x) (hb : Below w.heap.size w w') : Box w' g x := h.below hb h.lt
theorem box_new (w : World) (x : Tb) : Box (w.alloc (.cells (encT x).toArray 32)) w.heap.size x := heap_alloc_new w _
theorem box_row {w : World} {g : Nat} {old : Array Value} (x : Tb) (h : w.heap[g]? = some (.cells old 32 (0, 0))) : Box (w.setRow g (encT x).toArray) g x := setRow_heap w g old _ 32 (0, 0) h
theorem Box.frozen {w : World} {g : Nat} {x : Tb} (h : Box w g x) (i : Nat) : w.frozen? ⟨g, i, none⟩ = false := frozen_of_row w g i _ 32 h
/-- Another first, another last key. -/
def Tb.fst (x : Tb) (s : ByteArray) : Tb := ⟨x.lv, x.ct, x.root, s, x.last, x.hr⟩
def Tb.lst (x : Tb) (s : ByteArray) : Tb := ⟨x.lv, x.ct, x.root, x.first, s, x.hr⟩
theorem encT_fst (x : Tb) (s : ByteArray) : (encT x).set 34 (.string s) = encT (x.fst s) := by
  unfold encT Tb.fst
  rw [List.set_cons_succ, List.set_cons_succ, List.set_append_right _ _ (by rw [cellsOf_length, x.hr]; omega), cellsOf_length, x.hr]
  rfl
theorem encT_lst (x : Tb) (s : ByteArray) : (encT x).set 35 (.string s) = encT (x.lst s) := by
  unfold encT Tb.lst
  rw [List.set_cons_succ, List.set_cons_succ, List.set_append_right _ _ (by rw [cellsOf_length, x.hr]; omega), cellsOf_length, x.hr]
  rfl
theorem Box.set {w : World} {g i : Nat} {x y : Tb} {v : Value} (h : Box w g x) (hv : (encT x).set i v = encT y) : Box (w.setCell ⟨g, i, none⟩ v) g y := by
  rw [setCell_eq_setRow w g i _ 32 (0, 0) v h, List.setIfInBounds_toArray, hv]
  exact box_row y h
theorem below_set {w w0 : World} {g i B : Nat} {x : Tb} {v : Value} (h : Box w g x) (hb : Below B w0 w) (hB : B ≤ g) : Below B w0 (w.setCell ⟨g, i, none⟩ v) := by
  rw [setCell_eq_setRow w g i _ 32 (0, 0) v h]
  exact below_setRow hb hB _
/-- A table stored into a block of its own. -/
theorem wpList_store_box {ops : Array Oper} {rest : List Oper} {o : Oper} {a : Act} {Q : Exit → Act → World → Prop} (w : World)
    (hg : o.guard = none) (p v : Operand) (ho : o.op = .store 32 p v) (g : Nat) (hp : a.eval p = .pointer (some ⟨g, 0, none⟩)) (x : Tb) (hv : a.eval v = .agg (encT x).toArray)
    (old : Array Value) (hold : w.heap[g]? = some (.cells old 32 (0, 0))) (hs : old.size = 36)
    (hK : ∀ w1, Box w1 g x → Chg g w w1 → wpList Try.prog ops Q rest (a.put o.dst undef) w1) : wpList Try.prog ops Q (o :: rest) a w :=
  wpList_store_row hg 32 p v ho g (encT x).toArray hp hv 32 old hold (sizeTA x) (by show old.size = (encT x).toArray.size; rw [hs, List.size_toArray, encT_len]) (allT x) (hK _ (box_row x hold) ((Chg.refl g w).row _))
theorem box_z (w : World) : Box (w.alloc (.cells (encT zT).toArray 32)) w.heap.size zT := box_new w zT
/-- 'the row of one table, written out', at a step of a region that draws its order. -/
theorem step_build_tab {ops : Array Oper} {o : Oper} {a : Act} {K : Act → World → Prop} {Q : Exit → Act → World → Prop} {E0 : Prop} (w : World)
    (hg : o.guard = none ∨ Region.wanted o (yielded ops a.tmps) = true) (x : Operand) (hop : o.op = Op.buildSlice 22 1 #[(0, x)]) (t : Tb) (hx : a.eval x = .agg (encT t).toArray)
    (hK : K (a.put o.dst (.slice (some ⟨w.heap.size, 0, none⟩) 1 1)) (w.alloc (.cells (encT t).toArray 32))) :
    if Region.wanted o (yielded ops a.tmps) = true then Oper.wp Try.prog o a w K Q else E0 := by
  have hw : Region.wanted o (yielded ops a.tmps) = true := by
    rcases hg with hg | hg
    · simp [Region.wanted, hg]
    · exact hg
  rw [if_pos hw]
  obtain ⟨i0, hi, hz0, hz1, hz2⟩ := info_parts info32
  refine wp_buildSlice 22 32 1 _ hop (encT t).toArray i0 _ Try.underlying22 hi hz0 (by rw [hz1]; omega) (by rw [hz1]; omega) ?_ hK
  rw [hz1]
  have h := Great.fill_whole (s := 36) (by omega) [Value.agg (encT t).toArray] ((Array.range (1 * 36)).map ((Value.agg (encT zT).toArray).cells[· % (Value.agg (encT zT).toArray).cells.size]!)) (fun v hv => by
    rw [List.mem_singleton] at hv
    subst hv
    simp [Value.cells, encT_len]) (by simp)
  have e1 : (#[(0, x)].map fun (y : Nat × Operand) => (y.1, a.eval y.2)).toList = ([Value.agg (encT t).toArray].zipIdx 0).map fun x => (x.2, x.1) := by simp [hx]
  have e2 : [Value.agg (encT t).toArray].flatMap (fun v => v.cells.toList) = encT t := by simp [Value.cells]
  rw [e2] at h
  exact (congrArg _ e1).trans h
/-- 'the row of one table, written out'. -/
theorem wpList_build_tab {ops : Array Oper} {rest : List Oper} {o : Oper} {a : Act} {Q : Exit → Act → World → Prop} (w : World)
    (hg : o.guard = none) (x : Operand) (hop : o.op = Op.buildSlice 22 1 #[(0, x)]) (t : Tb) (hx : a.eval x = .agg (encT t).toArray)
    (hK : wpList Try.prog ops Q rest (a.put o.dst (.slice (some ⟨w.heap.size, 0, none⟩) 1 1)) (w.alloc (.cells (encT t).toArray 32))) :
    wpList Try.prog ops Q (o :: rest) a w := by
  refine BigFrame.wpList_want (by simp [Region.wanted, hg]) fun K hK2 => ?_
  have h := step_build_tab (ops := ops) (o := o) (a := a) (K := K) (Q := Q) (E0 := True) w (.inl hg) x hop t hx (hK2 _ _ hK)
  rwa [if_pos (by simp [Region.wanted, hg])] at h
theorem one_cells (w : World) (x : Tb) : ∀ j u, (flatT [x])[j]? = some u → (w.alloc (.cells (encT x).toArray 32)).cell? ((⟨w.heap.size, 0, none⟩ : Addr).add j) = some u := by
  intro j u hu
  rw [flatT_single] at hu
  rw [Addr.add_lit, Nat.zero_add]
  exact (box_new w x).at_ hu
/-- 'append(own, more...)' of tables. -/
theorem wpList_append_tabs {ops : Array Oper} {rest : List Oper} {o : Oper} {a : Act} {Q : Exit → Act → World → Prop} (w : World)
    (hg : o.guard = none) (s x : Operand) (hop : o.op = Op.call { callee := Callee.builtin Builtin.append, args := #[s, x], argTypes := #[22, 22] })
    (base : Nat) (v : Value) (n : Nat) (xs : List Tb) (hs : a.eval s = v) (hown : w.ownsRow base 32 36 v n (flatT xs)) (hbase : base ≤ w.heap.size)
    (ao : Option Addr) (m c : Nat) (ys : List Tb) (hx : a.eval x = .slice ao m c) (hE : TabsV w ao m ys) (h0 : ao = none → c = 0)
    (hb : n + m ≤ 100000000000)
    (hK : ∀ v' w', w'.ownsRow base 32 36 v' (xs ++ ys).length (flatT (xs ++ ys)) → Below base w w' → wpList Try.prog ops Q rest (a.put o.dst v') w') :
    wpList Try.prog ops Q (o :: rest) a w := by
  obtain ⟨i0, hi, hz0, hz1, hz2⟩ := info_parts info32
  have hn : n = xs.length := by have := hown.1; rw [flatT_len] at this; omega
  have hml := hE.1
  cases ao with
  | none =>
    have hm : m = 0 := by
      by_cases hp : 0 < m
      · obtain ⟨b, off, h1, _⟩ := hE.2 hp; cases h1
      · omega
    obtain rfl := h0 rfl
    subst hm
    have hys : ys = [] := List.eq_nil_of_length_eq_zero hml
    subst hys
    refine wpList_append_own_none hg s x 22 hop base 32 i0 36 Try.underlying22 hi v n (flatT xs) hs hown hx ?_
    exact hK v w (by rw [List.append_nil, ← hn]; exact hown) (Below.refl _ _)
  | some ad =>
    refine wpList_append_own w hg s x 22 hop base 32 i0 _ 36 80 Try.underlying22 hi hz0 hz1 hz2 (by rw [show (Value.agg (encT zT).toArray).cells = (encT zT).toArray from rfl, List.size_toArray, encT_len]) (by decide) v n (flatT xs) hs hown ad m c (flatT ys) hx (by rw [flatT_len]; omega) ?_ (flatT_one ys) (by unfold maxLen; omega) (by omega) hbase ?_
    · intro j u hu
      have hp : 0 < m := by
        have := (List.getElem?_eq_some_iff.1 hu).1
        rw [flatT_len] at this; omega
      obtain ⟨b, off, h1, h2⟩ := hE.2 hp
      cases h1
      rw [Addr.add_lit]
      exact h2 j u hu
    · intro v' w' h1 h2 _
      refine hK v' w' ?_ ((Below.refl _ _).grown h2 hbase (fun k hk => (hown.lt k hk).1))
      rw [List.length_append, hml, ← hn, flatT_append]
      exact h1
/-- A row of one, written out. -/
theorem tabsV_one (w : World) (x : Tb) : TabsV (w.alloc (.cells (encT x).toArray 32)) (some ⟨w.heap.size, 0, none⟩) 1 [x] :=
  ⟨rfl, fun _ => ⟨_, 0, rfl, fun j u hu => by have := one_cells w x j u hu; rwa [Addr.add_lit] at this⟩⟩
/-- An empty row that was written out. -/
theorem own_emptyT (w : World) : (w.alloc (.cells #[] 32)).ownsRow w.heap.size 32 36 (.slice (some ⟨w.heap.size, 0, none⟩) 0 0) 0 (flatT []) :=
  World.ownsRow_made w #[] 0 (Nat.le_refl _) (by unfold maxLen; omega) rfl
theorem own_tabs_keep {w w' : World} {base n : Nat} {v : Value} {ts : List Tb} (h : w.ownsRow base 32 36 v n (flatT ts)) (hb : Below w.heap.size w w') : w'.ownsRow base 32 36 v n (flatT ts) := own_below h hb (Nat.le_refl _)
end Go.Proofs.Ytnkbhojflcckmaa
