/-
  What table.Bytes answers of a fit list: a contract over this translation.
-/
import Derived.Test.YtcgjhopfdpaocaaDoorTbC
namespace Go.Proofs.YtcgjhopfdpaocaaDoor
open Go.RowKit Go.Sort Go.Shelf
set_option linter.unusedSectionVars false
variable [Inhabited E] [DecidableEq E]
attribute [local go_sem] Oper.semAt_some
theorem own_not {W : World} {n0 : Nat} {v : Value} {bs : List UInt8} {row : Option Nat} (h : W.ownsRow n0 5 1 v bs.length (cellsOf bs)) (hne : ∀ j, v.ownBlock = some j → row ≠ some j) : v.ownBlock = none ∨ v.ownBlock ≠ row := by
  rcases h.2 with ⟨rfl, _⟩ | ⟨g, cap, cur, rfl, _⟩
  · exact .inl rfl
  · exact .inr fun e => hne g rfl e.symm
theorem others_below {B : Nat} {W W' : World} (h : Below B W W') (hB : W.heap.size ≤ B) : KeepsOthers W W' := ⟨h.size, fun k _ hk _ => (h.block k (Nat.lt_of_lt_of_le (Array.getElem?_eq_some_iff.1 hk).1 hB)).trans hk⟩
theorem box_not {n0 B : Nat} {t : TypeId} {W : World} {u v : Value} {bs : List UInt8} (h : Boxed W B t u) (ht : t ≠ 5) (hr : RowB n0 W v bs) : some B ≠ v.ownBlock := fun e => by
  obtain ⟨-, cur, fr, h2⟩ := hr.block B e.symm
  have h3 : W.heap[B]? = some (.cells #[u] t (0, 0)) := h
  rw [h3] at h2; cases h2; exact ht rfl
theorem RowB.shape {n0 : Nat} {W : World} {v : Value} {bs : List UInt8} (h : RowB n0 W v bs) (hp : 0 < bs.length) : ∃ g c, v = .slice (some ⟨g, 0, none⟩) bs.length c := by
  rcases h with h | ⟨g, rfl, -⟩
  · obtain ⟨g, c, h1, -⟩ := own_shape h hp; exact ⟨g, c, h1⟩
  · exact ⟨g, _, rfl⟩
/-- 'append(own, more...)' in a region that draws. -/
theorem step_append_row {ops : Array Oper} {o : Oper} {a : Act} {K : Act → World → Prop} {Q : Exit → Act → World → Prop} {E0 : Prop} (w : World)
    (hg : o.guard = none) (s x : Operand) (hop : o.op = Op.call { callee := Callee.builtin Builtin.append, args := #[s, x], argTypes := #[25, 25] })
    (base : Nat) (v : Value) (bs : List UInt8) (hs : a.eval s = v) (hown : RowB base w v bs) (hbase : base ≤ w.heap.size)
    (ad : Addr) (m c : Nat) (ms : List UInt8) (hx : a.eval x = .slice (some ad) m c) (hm : Bytes w (some ad) m ms) (hp : 0 < m) (hb : bs.length + m ≤ 140737488355328)
    (hK : ∀ v' w', w'.ownsRow base 5 1 v' (bs ++ ms).length (cellsOf (bs ++ ms)) → w.grownBy w' v.ownBlock → (v'.ownBlock = v.ownBlock ∨ ∃ g, v'.ownBlock = some g ∧ w.heap.size ≤ g) → K (a.put o.dst v') w') :
    if Region.wanted o (yielded ops a.tmps) = true then Oper.wp Tryd.prog o a w K Q else E0 := by
  have hw : Region.wanted o (yielded ops a.tmps) = true := by simp [Region.wanted, hg]
  rw [if_pos hw]
  obtain ⟨v', w', hr, h2, h3, h4⟩ := run_append_row w base o.type v bs hown hbase ad m c ms hm hp hb
  unfold Oper.wp execOp
  simp only [hop, resolve, invoke, builtin, Sem.run_bind, Sem.run_pure, Result.andThen_ok, List.map_toArray, List.map_cons, List.map_nil, hs, hx, hr]
  exact hK _ _ h2 h3 h4
structure BtA (n0 B : Nat) (vb vi vc : Value) (bs is : List UInt8) (W : World) : Prop where
  bb : Boxed W B 25 vb
  bi : Boxed W (B + 1) 25 vi
  bc : Boxed W (B + 1 + 1) 3 vc
  row : RowB n0 W vb bs
  idx : W.ownsRow n0 5 1 vi is.length (cellsOf is)
  ne : ∀ j, vi.ownBlock = some j → vb.ownBlock ≠ some j
theorem BtA.new {n0 B : Nat} {vb vi vc : Value} {bs is : List UInt8} {W W' : World} (h : BtA n0 B vb vi vc bs is W) (hb : Below W.heap.size W W') : BtA n0 B vb vi vc bs is W' :=
  ⟨(hb.block _ h.bb.lt).trans h.bb, (hb.block _ h.bi.lt).trans h.bi, (hb.block _ h.bc.lt).trans h.bc, h.row.same (fun k _ _ _ hk => (hb.block k (Array.getElem?_eq_some_iff.1 hk).1).trans hk), own_below h.idx hb (Nat.le_refl _), h.ne⟩
theorem BtA.put {n0 B : Nat} {vb vi vc : Value} {bs is : List UInt8} {W : World} (h : BtA n0 B vb vi vc bs is W) {l : Nat} {o : Obj} (o' : Obj) (hl : W.heap[l]? = some o) (ho : o.isCells = false) : BtA n0 B vb vi vc bs is (W.putObj l o') :=
  ⟨box_put h.bb o' hl ho, box_put h.bi o' hl ho, box_put h.bc o' hl ho, h.row.same (fun k _ _ _ hk => (World.putObj_heap_other (fun e => by subst e; rw [hl] at hk; cases hk; cases ho)).trans hk), owns_put h.idx o' hl ho, h.ne⟩
theorem KT.grow {n0 : Nat} {W w1 : World} {v : Value} {bs : List UInt8} (hr : RowB n0 W v bs) (hn : n0 ≤ W.heap.size) (hg : W.grownBy w1 v.ownBlock) : KT 22 n0 W w1 := by
  refine ⟨(Below.refl n0 W).grown hg hn fun j ej => (hr.block j ej).1, fun k cur fr hk => ?_⟩
  refine (hg.block k (Array.getElem?_eq_some_iff.1 hk).1 fun e => ?_).trans hk
  obtain ⟨-, cur2, fr2, h3⟩ := hr.block k e.symm
  rw [hk] at h3; cases h3
/-- Behind the append, and its store. -/
theorem BtA.app {n0 B : Nat} {vb vi vc v' : Value} {bs is ms : List UInt8} {W w1 : World} (h : BtA n0 B vb vi vc bs is W) (hn : n0 ≤ W.heap.size) (hB : n0 ≤ B) (hown : w1.ownsRow n0 5 1 v' (bs ++ ms).length (cellsOf (bs ++ ms))) (hg : W.grownBy w1 vb.ownBlock) (hsp : v'.ownBlock = vb.ownBlock ∨ ∃ g, v'.ownBlock = some g ∧ W.heap.size ≤ g) :
    Boxed w1 B 25 vb ∧ BtA n0 B v' vi vc (bs ++ ms) is (w1.setCell ⟨B, 0, none⟩ v') ∧ KT 22 n0 W (w1.setCell ⟨B, 0, none⟩ v') ∧ KeepsOthers W (w1.setCell ⟨B, 0, none⟩ v') := by
  have k1 : Boxed w1 B 25 vb := h.bb.kept hg (box_not h.bb (by decide) h.row)
  have k2 : Boxed w1 (B + 1) 25 vi := h.bi.kept hg (box_not h.bi (by decide) h.row)
  have k3 : Boxed w1 (B + 1 + 1) 3 vc := h.bc.kept hg (box_not h.bc (by decide) h.row)
  have k4 : w1.ownsRow n0 5 1 vi is.length (cellsOf is) := h.idx.kept hg (own_not h.idx h.ne)
  refine ⟨k1, ⟨k1.set v', (heap_set_far _ _ _ _ (by omega)).trans k2, (heap_set_far _ _ _ _ (by omega)).trans k3, .inl (hown.kept (grownBy_setCell' w1 B v') (.inr (k1.not_row (by decide) hown).symm)), k4.kept (grownBy_setCell' w1 B v') (.inr (k1.not_row (by decide) k4).symm), fun j hj e => ?_⟩, (KT.grow h.row hn hg).trans (KT.set k1 (by decide) hB v'), ?_⟩
  · rcases hsp with h1 | ⟨g, h1, h2⟩
    · exact h.ne j hj (h1.symm.trans e)
    · rw [h1] at e
      have h3 : j < W.heap.size := by
        rcases h.idx.2 with ⟨rfl, _⟩ | ⟨q, cap, cur, rfl, _, hq, _⟩
        · cases hj
        · cases hj; exact (Array.getElem?_eq_some_iff.1 hq).1
      cases e; omega
  · refine (KeepsOthers.of_grownBy hg fun j o ej hj => ?_).trans (KeepsOthers.setCell _ _ _)
    obtain ⟨-, cur, fr, h3⟩ := h.row.block j ej
    rw [hj] at h3; cases h3; rfl
/-- Behind a new index, and the stores of it and of the count. -/
theorem BtA.idx2 {n0 B b4 : Nat} {vb vi vc v4 vc' : Value} {bs is js : List UInt8} {W w4 : World} (h : BtA n0 B vb vi vc bs is W) (hrow : W.ownsRow n0 5 1 vb bs.length (cellsOf bs)) (hn : n0 ≤ W.heap.size) (hB : n0 ≤ B) (hb : Below W.heap.size W w4) (hown : w4.ownsRow b4 5 1 v4 js.length (cellsOf js)) (hb4 : W.heap.size ≤ b4) :
    Boxed w4 (B + 1) 25 vi ∧ Boxed (w4.setCell ⟨B + 1, 0, none⟩ v4) (B + 1 + 1) 3 vc ∧ BtA n0 B vb v4 vc' bs js ((w4.setCell ⟨B + 1, 0, none⟩ v4).setCell ⟨B + 1 + 1, 0, none⟩ vc') ∧ KT 22 n0 W ((w4.setCell ⟨B + 1, 0, none⟩ v4).setCell ⟨B + 1 + 1, 0, none⟩ vc') ∧ KeepsOthers W ((w4.setCell ⟨B + 1, 0, none⟩ v4).setCell ⟨B + 1 + 1, 0, none⟩ vc') := by
  have k := h.new hb
  have o1 : w4.ownsRow n0 5 1 vb bs.length (cellsOf bs) := own_below hrow hb (Nat.le_refl _)
  have o4 : w4.ownsRow n0 5 1 v4 js.length (cellsOf js) := ownsRow_mono hown (by omega)
  have c1 : Boxed (w4.setCell ⟨B + 1, 0, none⟩ v4) (B + 1) 25 v4 := k.bi.set v4
  have c2 : Boxed (w4.setCell ⟨B + 1, 0, none⟩ v4) (B + 1 + 1) 3 vc := (heap_set_far _ _ _ _ (by omega)).trans k.bc
  have c3 : Boxed (w4.setCell ⟨B + 1, 0, none⟩ v4) B 25 vb := (heap_set_far _ _ _ _ (by omega)).trans k.bb
  have p1 := o1.kept (grownBy_setCell' w4 (B + 1) v4) (.inr (k.bi.not_row (by decide) o1).symm)
  have p4 := o4.kept (grownBy_setCell' w4 (B + 1) v4) (.inr (k.bi.not_row (by decide) o4).symm)
  refine ⟨k.bi, c2, ⟨(heap_set_far _ _ _ _ (by omega)).trans c3, (heap_set_far _ _ _ _ (by omega)).trans c1, c2.set vc', .inl (p1.kept (grownBy_setCell' _ (B + 1 + 1) vc') (.inr (c2.not_row (by decide) p1).symm)), p4.kept (grownBy_setCell' _ (B + 1 + 1) vc') (.inr (c2.not_row (by decide) p4).symm), fun j hj e => ?_⟩, ?_, ?_⟩
  · have h1 : j < W.heap.size := by
      rcases hrow.2 with ⟨rfl, _⟩ | ⟨q, cap, cur, rfl, _, hq, _⟩
      · cases e
      · cases e; exact (Array.getElem?_eq_some_iff.1 hq).1
    rcases hown.2 with ⟨rfl, _⟩ | ⟨q, cap, cur, rfl, hq, _⟩
    · cases hj
    · cases hj; simp only at h1; omega
  · exact ((KT.of_below hb (Nat.le_refl _) hn).trans (KT.set k.bi (by decide) (by omega) v4)).trans (KT.set c2 (by decide) (by omega) vc')
  · exact ((others_below hb (Nat.le_refl _)).trans (KeepsOthers.setCell _ _ _)).trans (KeepsOthers.setCell _ _ _)
/-- An ending that is no panic. -/
def QM (Q : Exit → Act → World → Prop) : Exit → Act → World → Prop
  | .normal, a, w => Q .normal a w
  | .ret, a, w => Q .ret a w
  | _, _, _ => False
theorem qm_mono {F : Fence} {n : Nat} {P : Program} {c : Code} {Q : Exit → Act → World → Prop} {a : Act} {w : World} (h : c.wpIn F n P (QM Q) a w) : c.wpIn F n P Q a w :=
  wpIn_mono h (fun e a w h => by cases e <;> first | exact h | exact h.elim)
theorem qm_ret {Q : Exit → Act → World → Prop} {a : Act} {w : World} (h : Q .ret a w) : QM Q .ret a w := h
/-- What Bytes' own variables hold between two rounds. -/
def BtI (w : World) (B : Nat) (es : List E) (pre : List (ByteArray × SV)) (W : World) : Prop :=
  (∃ vb vi, BtA w.heap.size B vb vi (.int .i64 (pre.length : Int)) (letT ++ bodyT es pre.length) (idxT es pre.length) W) ∧ pre.length ≤ nT es ∧ Below w.heap.size w W
theorem btI_new (w : World) (B : Nat) (es : List E) : AbNew (BtI w B es) := by
  rintro pre W W' ⟨⟨vb, vi, h1⟩, h2, h3⟩ hb
  exact ⟨⟨vb, vi, h1.new hb⟩, h2, h3.trans (hb.mono h3.size)⟩
theorem btI_put (w : World) (B B2 : Nat) (es : List E) (hB : w.heap.size ≤ B2) : AbPut B2 (BtI w B es) := by
  rintro pre W l o o' ⟨⟨vb, vi, h1⟩, h2, h3⟩ hl ho hc
  exact ⟨⟨vb, vi, h1.put o' ho hc⟩, h2, below_put h3 l o' (by omega)⟩
theorem okB_put (es : List E) (B : Nat) (pre : List (ByteArray × SV)) : AbPut B (OkB es pre) := by
  rintro x W l o o' ⟨h1, h2, h3, h4, h5⟩ hl ho hc
  exact ⟨h1, h2, h3, bytes_put h4 o' ho hc, h5⟩
set_option maxRecDepth 100000 in
set_option maxHeartbeats 4000000 in
theorem tableBytes_some (b off n c : Nat) (es : List E) (w : World) (hE : EntsV w (some ⟨b, off, none⟩) n es) (hnc : n ≤ c) (hf : fitB es = true) (hlow : b < w.heap.size) :
    Calls Tryd.prog 13 #[.slice (some ⟨b, off, none⟩) n c] w fun e w' => ∃ v', e = .returned (.tuple #[v', .int .i64 0]) ∧ w'.ownsRow w.heap.size 5 1 v' (fileB es).length (cellsOf (fileB es)) ∧ Below w.heap.size w w' := by
  have CF := fitT_any (some ⟨b, off, none⟩) n c es w hE (right_small (fit_all hf)) (by have := hE.1; have := fit_len hf; omega)
  rw [hf] at CF
  have HCF : Hid _ := CF
  have HE : Hid (EntsV w (some ⟨b, off, none⟩) n es) := hE
  have HF : Hid (fitB es = true) := hf
  have kc := fun (w : World) (C : Array Value) (n c : Nat) => Lib.run_convert_bytes_const (P := Tryd.prog) w 25 5 C n c Tryd.underlying25 Tryd.underlying5
  clear CF hE hf
  refine (callsIn_wide (n := 3)).1 ?_
  refine callsIn_of_wp_marks Tryd.func13 rfl trivial (qm_mono (wpIn_wide.2 ?_)) rfl
  simp only [Tryd.ntmps13, List.size_toArray, List.length_cons, List.length_nil, Nat.reduceAdd, Nat.reduceSub, Array.replicate_succ, Array.replicate_zero, List.push_toArray, List.append_toArray, List.nil_append, List.cons_append]
  go_wp2_with fail
  refine Calls.mono HCF.out ?_
  rintro e w1 ⟨rfl, hb1⟩
  go_wp2_with fail
  refine (blocks_new _ _ _ _).mono ?_
  rintro e w2 ⟨rfl, rfl⟩
  go_wp2_with fail
  clear kc HCF
  obtain ⟨W0, hW0⟩ : ∃ W0, ((((w1.alloc (Obj.cells #[Value.int IntKind.u8 77, Value.int IntKind.u8 65, Value.int IntKind.u8 82, Value.int IntKind.u8 76] 5 (4, 5))).alloc (Obj.cells #[Value.slice (some { block := w1.heap.size, off := 0 }) 4 4] 25)).alloc (Obj.cells #[Value.slice none 0 0] 25)).alloc (Obj.cells #[Value.int IntKind.i64 0] 3)).alloc (Obj.cells #[Value.slice (some { block := b, off := off }) n c] 22) = W0 := ⟨_, rfl⟩
  have hsz : W0.heap.size = w1.heap.size + 5 := by rw [← hW0]; simp
  have hbl : Below w1.heap.size w1 W0 := by rw [← hW0]; exact (((((Below.refl _ w1).alloc (Nat.le_refl _) _).alloc (by simp) _).alloc (by simp; omega) _).alloc (by simp; omega) _).alloc (by simp; omega) _
  have hbel : Below w.heap.size w W0 := hb1.trans (hbl.mono hb1.size)
  have hz1 : w.heap.size ≤ w1.heap.size := hb1.size
  have hst : BtA w.heap.size (w1.heap.size + 1) (.slice (some ⟨w1.heap.size, 0, none⟩) 4 4) (.slice none 0 0) (.int .i64 0) letT [] W0 := by
    have e1 : (cellsOf letT).toArray = #[Value.int IntKind.u8 77, Value.int IntKind.u8 65, Value.int IntKind.u8 82, Value.int IntKind.u8 76] := rfl
    refine ⟨?_, ?_, ?_, .inr ⟨w1.heap.size, rfl, hz1, ?_, by decide⟩, World.ownsRow_nil _ _ _ _, fun j hj => by cases hj⟩
    · rw [← hW0]; exact ((Boxed.alloc (Boxed.alloc (by have := Boxed.new (w1.alloc (Obj.cells #[Value.int IntKind.u8 77, Value.int IntKind.u8 65, Value.int IntKind.u8 82, Value.int IntKind.u8 76] 5 (4, 5))) 25 (Value.slice (some { block := w1.heap.size, off := 0 }) 4 4); rw [World.size_alloc] at this; exact this) _) _).alloc _)
    · rw [← hW0]; exact (Boxed.alloc (by have := Boxed.new ((w1.alloc (Obj.cells #[Value.int IntKind.u8 77, Value.int IntKind.u8 65, Value.int IntKind.u8 82, Value.int IntKind.u8 76] 5 (4, 5))).alloc (Obj.cells #[Value.slice (some { block := w1.heap.size, off := 0 }) 4 4] 25)) 25 (Value.slice none 0 0); rw [World.size_alloc, World.size_alloc] at this; exact this) _).alloc _
    · rw [← hW0]; exact Boxed.alloc (by have := Boxed.new (((w1.alloc (Obj.cells #[Value.int IntKind.u8 77, Value.int IntKind.u8 65, Value.int IntKind.u8 82, Value.int IntKind.u8 76] 5 (4, 5))).alloc (Obj.cells #[Value.slice (some { block := w1.heap.size, off := 0 }) 4 4] 25)).alloc (Obj.cells #[Value.slice none 0 0] 25)) 3 (Value.int IntKind.i64 0); rw [World.size_alloc, World.size_alloc, World.size_alloc] at this; exact this) _
    · rw [e1, ← hW0, Below.heap_alloc _ _ _ (by simp; omega), Below.heap_alloc _ _ _ (by simp; omega), Below.heap_alloc _ _ _ (by simp; omega), Below.heap_alloc _ _ _ (by simp), World.alloc_heap_new]; rfl
  have hbn : Boxed W0 (w1.heap.size + 1 + 1 + 1 + 1) 22 (.slice (some ⟨b, off, none⟩) n c) := by
    have := Boxed.new ((((w1.alloc (Obj.cells #[Value.int IntKind.u8 77, Value.int IntKind.u8 65, Value.int IntKind.u8 82, Value.int IntKind.u8 76] 5 (4, 5))).alloc (Obj.cells #[Value.slice (some { block := w1.heap.size, off := 0 }) 4 4] 25)).alloc (Obj.cells #[Value.slice none 0 0] 25)).alloc (Obj.cells #[Value.int IntKind.i64 0] 3)) 22 (Value.slice (some { block := b, off := off }) n c)
    rw [World.size_alloc, World.size_alloc, World.size_alloc, World.size_alloc, hW0] at this; exact this
  rw [hW0]
  clear hW0 hb1 hbl
  refine wpIn_wide.1 (range_out (gf := 61) (lb := #[.pointer (some ⟨w1.heap.size + 1 + 1 + 1 + 1, 0, none⟩)]) rfl (enters_of Tryd.func61 (by kernel_rfl) rfl) (fun x : ByteArray × SV => #[.string x.1, .slice x.2.ao x.2.n x.2.c]) (fun _ => rfl)
    (BtI w (w1.heap.size + 1) es) (fun _ _ => False) (fun xs _ => xs.length = nT es) (fun _ _ => True) (KT 22 w.heap.size) (OkB es)
    (fun x => { tmps := #[.slice (some ⟨b, off, none⟩) n c, undef, .slice none 0 0, .int .i64 0, .pointer (some ⟨w1.heap.size + 1, 0, none⟩), .pointer (some ⟨w1.heap.size + 1 + 1, 0, none⟩), .pointer (some ⟨w1.heap.size + 1 + 1 + 1, 0, none⟩), .string x.1, .slice x.2.ao x.2.n x.2.c, undef, .slice (some ⟨b, off, none⟩) n c, .bool true, .bool false, .slice (some ⟨w1.heap.size, 0, none⟩) 4 4, .slice (some ⟨w1.heap.size, 0, none⟩) 4 4, .slice (some ⟨b, off, none⟩) n c, .func (.func 61) #[] #[.pointer (some ⟨w1.heap.size + 1 + 1 + 1 + 1, 0, none⟩)], .string x.1, .slice x.2.ao x.2.n x.2.c, undef, undef, undef, undef, undef, undef, undef, undef, undef, undef, undef, undef, undef, undef, undef, undef, undef, undef, undef, undef, undef, undef, undef, undef], defers := [] })
    ?seq (btI_new w _ es) (fun _ _ _ h _ => h) (btI_put w _ _ es (by omega)) (fun _ _ _ _ _ h _ _ _ => h) (fun _ _ _ _ _ h _ _ _ => h) (fun _ _ _ _ _ h _ _ _ => h) (okB_put es _) (fun h k => h.trans k) (fun W l o o' hl ho hc => KT.put W l o o' (by omega) ho hc) ?start ?assign ?body ?done ?stp)
  case seq =>
    intro J Jx W hW hJ hJx hY h0
    exact blocks_in (W0.heap.size + 1) (w1.heap.size + 1 + 1 + 1 + 1) w.heap.size b off n c es HF.out hnc J Jx hJ hY W ((hW.block _ hbn.lt).trans hbn) (HE.out.below (hbel.trans (hW.mono (by omega))) (Nat.le_refl _)) hlow (Nat.le_trans hbel.size hW.size) h0
  case start => exact ⟨⟨_, _, by simpa [bodyT, idxT] using hst⟩, Nat.zero_le _, hbel⟩
  case assign =>
    intro x W K hK
    gi_wp2
    exact hK
  case stp =>
    intro D xs W hD ht hi
    exact hi.elim
  case body =>
    rintro pre ⟨key, ⟨xo, m, xc, xb⟩⟩ W ⟨⟨vb, vi, hA⟩, hpl, hB⟩ ⟨hlt, hkey, hxb, hby, hfi⟩
    simp only at hkey hxb hby hfi
    subst hkey
    subst hxb
    have hbl := blkT_len HF.out hlt
    have hml := hby.1
    obtain ⟨xa, xo2, rfl, -⟩ := bytes_at hby (by omega)
    have hbt := bodyT_len HF.out pre.length (by omega)
    have hit := idxT_len HF.out pre.length (by omega)
    have hn4 := (nT_le HF.out).2
    have hks := keyT_size HF.out hlt
    have hk4' : pre.length ≤ 3 := by omega
    have hrl := rowT_len HF.out hlt
    obtain ⟨k, hk⟩ : ∃ k, pre.length = k := ⟨_, rfl⟩
    have HIN : Hid (∀ W6, (∃ vb vi, BtA w.heap.size (w1.heap.size + 1) vb vi (.int .i64 ((k : Int) + 1)) (letT ++ bodyT es k ++ blkT es k) (idxT es k ++ textB (strB (keyT es k)) ++ putB (blkT es k).length) W6) → Below w.heap.size w W6 → BtI w (w1.heap.size + 1) es (pre ++ [(keyT es k, ⟨some ⟨xa, xo2, none⟩, m, xc, blkT es k⟩)]) W6) := by
      rintro W6 ⟨vb, vi, h6⟩ hb6
      have e1 : (pre ++ [(keyT es k, (⟨some ⟨xa, xo2, none⟩, m, xc, blkT es k⟩ : SV))]).length = k + 1 := by simp [hk]
      refine ⟨⟨vb, vi, ?_⟩, by rw [e1]; omega, hb6⟩
      rw [e1, bodyT, idxT, rowT, ← List.append_assoc, ← List.append_assoc]
      exact h6
    rw [hk] at hA hbl hml hbt hit hks hrl hlt hpl hby hk4' ⊢
    have hil : (idxT es k).length ≤ 600 := by omega
    have hbl2 : (letT ++ bodyT es k).length + m ≤ 1000000 := by rw [List.length_append]; simp only [letT, List.length_cons, List.length_nil]; omega
    have hm0 : 0 < m := by omega
    have HML : Hid ((blkT es k).length = m) := hml
    obtain ⟨io, ic, hvi, -⟩ := own_bytes hA.idx
    subst hvi
    have HA : Hid (BtA w.heap.size (w1.heap.size + 1) vb (.slice io (idxT es k).length ic) (.int .i64 (k : Int)) (letT ++ bodyT es k) (idxT es k) W) := hA
    have HBY : Hid (Bytes W (some ⟨xa, xo2, none⟩) m (blkT es k)) := hby
    have HB : Hid (Below w.heap.size w W) := hB
    have hcb := hA.bb.cell
    obtain ⟨il, HIL⟩ : ∃ il, Hid ((idxT es k).length = il) := ⟨_, rfl⟩
    have hm1 : m ≤ 100000 := by omega
    rw [HIL.out] at hil HA
    clear hA hby hB hbt hit hn4 hbl hml hrl hpl hfi
    obtain ⟨L3, HL3⟩ : ∃ L, Hid ((letT ++ bodyT es k ++ blkT es k).length = L) := ⟨_, rfl⟩
    have hL3 : 0 < L3 := by rw [← HL3.out, List.length_append]; have := HML.out; omega
    gi_wp2_with (gi_at_builtin; refine wpListIn_append_row _ rfl (.tmp 19) (.tmp 20) rfl w.heap.size vb (letT ++ bodyT es k) rfl HA.out.row HB.out.size ⟨xa, xo2, none⟩ m xc (blkT es k) rfl HBY.out hm0 (by omega) ?_; intro v' w3 hown hgr hsp; obtain ⟨hk1, hA2, hkt, hko⟩ := HA.out.app HB.out.size (by omega) hown hgr hsp; have HROWA : Hid (w3.ownsRow w.heap.size 5 1 v' (letT ++ bodyT es k ++ blkT es k).length (cellsOf (letT ++ bodyT es k ++ blkT es k))) := hown; rw [HL3.out] at hown; obtain ⟨g', cap', hv', -, -, -, -⟩ := own_shape hown hL3; subst hv'; have HROW2 : Hid ((w3.setCell ⟨w1.heap.size + 1, 0, none⟩ (.slice (some ⟨g', 0, none⟩) L3 cap')).ownsRow w.heap.size 5 1 (.slice (some ⟨g', 0, none⟩) L3 cap') (letT ++ bodyT es k ++ blkT es k).length (cellsOf (letT ++ bodyT es k ++ blkT es k))) := HROWA.out.kept (grownBy_setCell' w3 (w1.heap.size + 1) _) (.inr (hk1.not_row (by decide) HROWA.out).symm); have hc1 := hk1.cell; have hf1 := hk1.frozen; have hc2 := hA2.bi.cell; have HA2 : Hid _ := hA2; have HKT : Hid _ := hkt; have HKO : Hid _ := hko; clear hown hgr hsp hk1 hA2 hkt hko)
    obtain ⟨W2, HW2⟩ : ∃ W2, Hid (w3.setCell ⟨w1.heap.size + 1, 0, none⟩ (.slice (some ⟨g', 0, none⟩) L3 cap') = W2) := ⟨_, rfl⟩
    rw [HW2.out] at HA2 HKT HKO HROW2 ⊢
    have hZ2 : w.heap.size ≤ W2.heap.size := Nat.le_trans HB.out.size HKT.out.bel.size
    have h3 := HA2.out.idx
    obtain ⟨io3, ic3, hv3, hby3, h03, hlc3, hcm3, -, -⟩ := own_bytes h3
    rw [HIL.out] at hv3 hby3 hlc3
    injection hv3 with e1 e2 e3
    subst e1
    subst e3
    unfold maxLen at hcm3
    have CT := putText_any io il ic (idxT es k) (keyT es k) W2 hlc3 hcm3 h03 hby3 (by omega)
    have HCT : Hid _ := CT
    clear CT h3 hby3 h03 hlc3 hcm3 e2 hc1 hf1 hc2
    refine ⟨trivial, (callsIn_wide.2 HCT.out).mono ?_⟩
    rintro e w4 ⟨v4, rfl, hown4, hb4⟩
    have htl := textB_len2 (keyT es k)
    obtain ⟨i2, HI2⟩ : ∃ i2, Hid (idxT es k ++ textB (strB (keyT es k)) = i2) := ⟨_, rfl⟩
    have hi2 : i2.length ≤ 1000 := by rw [← HI2.out, List.length_append, HIL.out]; omega
    rw [HI2.out] at hown4
    obtain ⟨l4, HL4⟩ : ∃ l4, Hid (i2.length = l4) := ⟨_, rfl⟩
    rw [HL4.out] at hown4 hi2
    obtain ⟨o4, c4, rfl, hby4, h04, hlc4, hcm4, -, -⟩ := own_bytes hown4
    unfold maxLen at hcm4
    have hmz : IntKind.u64.wrap (m : Int) = (m : Int) := by rw [IntKind.wrap_u64]; omega
    have HCP : Hid _ := put_any o4 l4 c4 i2 m w4 hlc4 hcm4 h04 hby4 (by omega) (by omega)
    have HB4 : Hid (Below W2.heap.size W2 w4) := hb4
    clear hown4 hby4 h04 hlc4 hcm4 hb4 htl HCT
    gi_wp2
    refine ⟨trivial, (callsIn_wide.2 HCP.out).mono ?_⟩
    rintro e w5 ⟨v5, rfl, hown5, hb5⟩
    have hrow2 : W2.ownsRow w.heap.size 5 1 (.slice (some ⟨g', 0, none⟩) L3 cap') (letT ++ bodyT es k ++ blkT es k).length (cellsOf (letT ++ bodyT es k ++ blkT es k)) := HROW2.out
    obtain ⟨q1, q2, q3, q4, q5⟩ := HA2.out.idx2 (vc' := .int .i64 ((k : Int) + 1)) hrow2 hZ2 (by omega) (HB4.out.trans (hb5.mono HB4.out.size)) hown5 HB4.out.size
    have hp5 : 0 < (i2 ++ putB m).length := by rw [List.length_append]; have := putB_pos m; omega
    obtain ⟨l5, HL5⟩ : ∃ l5, Hid ((i2 ++ putB m).length = l5) := ⟨_, rfl⟩
    rw [HL5.out] at hown5 hp5
    obtain ⟨g5, c5, hv5, -, -, -, -⟩ := own_shape hown5 hp5
    subst hv5
    have y1 := q1.cell
    have y2 := q1.frozen
    have y3 := q2.cell
    have y4 := q2.frozen
    have HQ3 : Hid _ := q3
    have HQ4 : Hid _ := q4
    have HQ5 : Hid _ := q5
    have hk4 : (k : Int) ≤ 4 := by omega
    clear q1 q2 q3 q4 q5 hown5 hb5 HCP hrow2
    gi_wp2
    refine ⟨HKT.out.trans HQ4.out, (KeepsOthers.trans HKO.out HQ5.out).from _, ?_⟩
    exact HIN.out _ ⟨.slice (some ⟨g', 0, none⟩) L3 cap', .slice (some ⟨g5, 0, none⟩) l5 c5, by rw [HML.out, HI2.out]; exact HQ3.out⟩ (HB.out.trans (HKT.out.trans HQ4.out).bel)
  case done =>
    rintro D xs W hD ht ⟨⟨vb, vi, hA⟩, -, hB⟩ hK
    rw [ht] at hA
    have hn4 := nT_le HF.out
    have hbt := bodyT_len HF.out (nT es) (Nat.le_refl _)
    have hit := idxT_len HF.out (nT es) (Nat.le_refl _)
    have hip : 0 < (idxT es (nT es)).length := by
      obtain ⟨k, hk⟩ : ∃ k, nT es = k + 1 := ⟨nT es - 1, by omega⟩
      have := (rowT_len HF.out (k := k) (by omega)).2
      rw [hk, idxT, List.length_append]; omega
    have HFB : Hid (fileB es = letT ++ bodyT es (nT es) ++ idxT es (nT es) ++ fixB (nT es) ++ fixB (letT ++ bodyT es (nT es)).length) := by show _ = _; rw [fileB, List.length_append]; rfl
    have hbl : (letT ++ bodyT es (nT es)).length = 4 + (bodyT es (nT es)).length := by rw [List.length_append]; rfl
    obtain ⟨bs, HBS⟩ : ∃ bs, Hid (letT ++ bodyT es (nT es) = bs) := ⟨_, rfl⟩
    obtain ⟨is, HIS⟩ : ∃ is, Hid (idxT es (nT es) = is) := ⟨_, rfl⟩
    obtain ⟨k, HKN⟩ : ∃ k, Hid (nT es = k) := ⟨_, rfl⟩
    rw [HBS.out] at hA HFB hbl
    rw [HIS.out] at hA HFB hip hit
    rw [HKN.out] at hA HFB hn4 hit hbt hbl
    obtain ⟨pl, HPL⟩ : ∃ pl, Hid (bs.length = pl) := ⟨_, rfl⟩
    obtain ⟨il, HIL⟩ : ∃ il, Hid (is.length = il) := ⟨_, rfl⟩
    have hpl0 : 0 < pl := by rw [← HPL.out]; omega
    have hpl9 : pl ≤ 500000 := by rw [← HPL.out]; omega
    rw [HPL.out] at HFB
    rw [HIL.out] at hip hit
    obtain ⟨gb, cb, hvb⟩ := hA.row.shape (by rw [HPL.out]; exact hpl0)
    rw [HPL.out] at hvb
    have hidx := hA.idx
    rw [HIL.out] at hidx
    obtain ⟨gi, ci, hvi, -, -, -, -⟩ := own_shape hidx hip
    subst hvb
    subst hvi
    have HA : Hid (BtA w.heap.size (w1.heap.size + 1) (.slice (some ⟨gb, 0, none⟩) pl cb) (.slice (some ⟨gi, 0, none⟩) il ci) (.int .i64 (k : Int)) bs is W) := hA
    have HB : Hid (Below w.heap.size w W) := hB
    have HKD : Hid (W.heap[D]? = some (.deferred (some []))) := hK
    have c0 := hA.bb.cell
    have c1 := hA.bi.cell
    have c2 := hA.bc.cell
    have hu1 : IntKind.u32.wrap (k : Int) = (k : Int) := by rw [IntKind.wrap_u32]; omega
    have hu2 : IntKind.u32.wrap (pl : Int) = (pl : Int) := by rw [IntKind.wrap_u32]; omega
    have hk4 : k ≤ 4 := hn4.2
    have hil9 : il ≤ 600 := by omega
    clear hA hB hK hbt hit hn4 hbl hidx hst hbn hbel hlow hnc HE
    go_upto_region 13 with fail
    refine wp_region_held_drew (S := fun w' => w'.cell? ⟨w1.heap.size + 1 + 1, 0, none⟩ = some (.slice (some ⟨gi, 0, none⟩) il ci) ∧ w'.cell? ⟨w1.heap.size + 1 + 1 + 1, 0, none⟩ = some (.int .i64 (k : Int))) (by kernel_rfl) ⟨c1, c2⟩ (fun hHeld => ?_)
    refine wpAnyH_take (i := 1) (v := ?_) rfl (by kernel_rfl) (by kernel_rfl) (by kernel_rfl) (fun _ _ _ h => h) (Or.inl ⟨by rfl, ?_⟩) (by assumption) ?_
    rotate_left
    · (intro w hSw; (try dsimp only at hSw); go_simp; try with_reducible rfl)
    simp only [Act.put, List.getElem_toArray, List.getElem_cons_zero, List.getElem_cons_succ, List.setIfInBounds_toArray, List.set_cons_zero, List.set_cons_succ]
    refine wpAnyH_take (i := 3) (v := ?_) rfl (by kernel_rfl) (by kernel_rfl) (by kernel_rfl) (fun _ _ _ h => h) (Or.inl ⟨by rfl, ?_⟩) (by assumption) ?_
    rotate_left
    · (intro w hSw; (try dsimp only at hSw); go_simp; try with_reducible rfl)
    simp only [Act.put, List.getElem_toArray, List.getElem_cons_zero, List.getElem_cons_succ, List.setIfInBounds_toArray, List.set_cons_zero, List.set_cons_succ]
    refine wpAnyH_take (i := 4) (v := ?_) rfl (by kernel_rfl) (by kernel_rfl) (by kernel_rfl) (fun _ _ _ h => h) (Or.inl ⟨by rfl, ?_⟩) (by assumption) ?_
    rotate_left
    · (intro w hSw; (try dsimp only at hSw); go_simp; try with_reducible rfl)
    simp only [Act.put, List.getElem_toArray, List.getElem_cons_zero, List.getElem_cons_succ, List.setIfInBounds_toArray, List.set_cons_zero, List.set_cons_succ]
    refine wpAnyH_ready (rs := [0]) (by kernel_rfl) (by simp) ?_
    refine AllReadyH.cons rfl (fun K hK => ?_) AllReadyH.nil
    go_simp
    refine hK.out _ _ hHeld (fun hHeld2 => ?_)
    clear hK K
    have hAd : BtA w.heap.size (w1.heap.size + 1) (.slice (some ⟨gb, 0, none⟩) pl cb) (.slice (some ⟨gi, 0, none⟩) il ci) (.int .i64 (k : Int)) bs is W.drew := HA.out.new (Below.drew (Below.refl _ _))
    have HAD : Hid _ := hAd
    have hidx := hAd.idx
    rw [HIL.out] at hidx
    have HBI : Hid (Bytes W.drew (some ⟨gi, 0, none⟩) il is) := own_row_bytes hidx
    clear hidx hAd
    refine wpAnyH_ready (rs := [2]) (by kernel_rfl) (by simp) ?_
    refine AllReadyH.cons rfl (fun K hK => ?_) AllReadyH.nil
    refine step_append_row W.drew rfl (.tmp 33) (.tmp 34) rfl w.heap.size _ bs rfl HAD.out.row HB.out.size ⟨gi, 0, none⟩ il ci is rfl HBI.out hip (by rw [HPL.out]; omega) ?_
    intro v5 w5 hown5 hgr5 hsp5
    have b0 := HAD.out.bb.kept hgr5 (box_not HAD.out.bb (by decide) HAD.out.row)
    have b1 := HAD.out.bi.kept hgr5 (box_not HAD.out.bi (by decide) HAD.out.row)
    have b2 := HAD.out.bc.kept hgr5 (box_not HAD.out.bc (by decide) HAD.out.row)
    have hd5 : w5.heap[D]? = some (.deferred (some [])) := by
      refine (hgr5.block D (Array.getElem?_eq_some_iff.1 HKD.out).1 (fun e => ?_)).trans HKD.out
      obtain ⟨-, cur, fr, h2⟩ := HAD.out.row.block D e.symm
      have h3 : W.drew.heap[D]? = some (.deferred (some [])) := HKD.out
      rw [h3] at h2; cases h2
    have hbel5 : Below w.heap.size w w5 := HB.out.trans ((Below.drew (Below.refl w.heap.size W)).grown hgr5 HB.out.size (fun j ej => (HAD.out.row.block j ej).1))
    obtain ⟨x5, HX5⟩ : ∃ x, Hid (bs ++ is = x) := ⟨_, rfl⟩
    have hx5 : x5.length ≤ 600000 ∧ 0 < x5.length := by rw [← HX5.out, List.length_append, HPL.out, HIL.out]; omega
    rw [HX5.out] at hown5
    obtain ⟨l5, HL5⟩ : ∃ l, Hid (x5.length = l) := ⟨_, rfl⟩
    rw [HL5.out] at hown5 hx5
    obtain ⟨g5, c5, rfl, -, -, hlc5, hcm5⟩ := own_shape hown5 hx5.2
    have hby5 := own_row_bytes hown5
    have HB0 : Hid (Boxed w5 (w1.heap.size + 1) 25 (.slice (some ⟨gb, 0, none⟩) pl cb)) := b0
    have HB1 : Hid (Boxed w5 (w1.heap.size + 1 + 1) 25 (.slice (some ⟨gi, 0, none⟩) il ci)) := b1
    have HB2 : Hid (Boxed w5 (w1.heap.size + 1 + 1 + 1) 3 (.int .i64 (k : Int))) := b2
    have HD5 : Hid _ := hd5
    have HB5 : Hid _ := hbel5
    have HCF : Hid _ := putFixed_any (some ⟨g5, 0, none⟩) l5 c5 x5 k w5 hlc5 (by omega) (fun h => by cases h) hby5 (by omega) (by omega)
    have HX5L : Hid (l5 ≤ 600000) := hx5.1
    clear hx5 hown5 hgr5 hsp5 hby5 hlc5 hcm5 hd5 hbel5
    refine hK.out _ _ ⟨b1.cell, b2.cell⟩ (fun hHeld3 => ?_)
    clear hK K b0 b1 b2 c0 c1 c2
    simp only [Act.put, List.getElem_toArray, List.getElem_cons_zero, List.getElem_cons_succ, List.setIfInBounds_toArray, List.set_cons_zero, List.set_cons_succ]
    refine wpAnyH_ready (rs := [5]) (by kernel_rfl) (by simp) ?_
    refine AllReadyH.cons rfl (fun K hK => ?_) AllReadyH.nil
    go_simp
    refine Calls.mono HCF.out ?_
    rintro e w6 ⟨v6, rfl, hown6, hb6⟩
    obtain ⟨x6, HX6⟩ : ∃ x, Hid (x5 ++ fixB k = x) := ⟨_, rfl⟩
    have hx6 : x6.length ≤ 600004 ∧ 0 < x6.length := by rw [← HX6.out, List.length_append, HL5.out, fixB_len]; have := HX5L.out; omega
    rw [HX6.out] at hown6
    obtain ⟨l6, HL6⟩ : ∃ l, Hid (x6.length = l) := ⟨_, rfl⟩
    rw [HL6.out] at hown6 hx6
    obtain ⟨g6, c6, rfl, -, -, hlc6, hcm6⟩ := own_shape hown6 hx6.2
    have f0 : Boxed w6 (w1.heap.size + 1) 25 (.slice (some ⟨gb, 0, none⟩) pl cb) := (hb6.block _ HB0.out.lt).trans HB0.out
    have f1 : Boxed w6 (w1.heap.size + 1 + 1) 25 (.slice (some ⟨gi, 0, none⟩) il ci) := (hb6.block _ HB1.out.lt).trans HB1.out
    have f2 : Boxed w6 (w1.heap.size + 1 + 1 + 1) 3 (.int .i64 (k : Int)) := (hb6.block _ HB2.out.lt).trans HB2.out
    have HD6 : Hid (w6.heap[D]? = some (.deferred (some []))) := (hb6.block _ (Array.getElem?_eq_some_iff.1 HD5.out).1).trans HD5.out
    have HB6 : Hid (Below w.heap.size w w6) := HB5.out.trans (hb6.mono HB5.out.size)
    have HF0 : Hid (Boxed w6 (w1.heap.size + 1) 25 (.slice (some ⟨gb, 0, none⟩) pl cb)) := f0
    have HO6 : Hid (w6.ownsRow w.heap.size 5 1 (.slice (some ⟨g6, 0, none⟩) l6 c6) l6 (cellsOf x6)) := ownsRow_mono hown6 HB5.out.size
    have HF1 : Hid (Boxed w6 (w1.heap.size + 1 + 1) 25 (.slice (some ⟨gi, 0, none⟩) il ci)) := f1
    have HF2 : Hid (Boxed w6 (w1.heap.size + 1 + 1 + 1) 3 (.int .i64 (k : Int))) := f2
    have HX6L : Hid (l6 ≤ 600004) := hx6.1
    have HLC6 : Hid (l6 ≤ c6 ∧ c6 ≤ 9223372036854775807) := ⟨hlc6, hcm6⟩
    clear hx6 hlc6 hcm6 hown6 hb6 HCF HAD HBI HB0 HB1 HB2
    go_wp2_with fail
    refine hK.out _ _ ⟨f1.cell, f2.cell⟩ (fun hHeld4 => ?_)
    clear hK K
    have y1 := f0.cell
    have y2 := f0.frozen
    clear f0 f1 f2
    refine wpAnyH_ready (rs := [6]) (by kernel_rfl) (by simp) ?_
    refine AllReadyH.cons rfl (fun K hK => ?_) AllReadyH.nil
    go_simp
    have g1 : Boxed (w6.setCell ⟨w1.heap.size + 1, 0, none⟩ (.slice (some ⟨g6, 0, none⟩) l6 c6)) (w1.heap.size + 1 + 1) 25 (.slice (some ⟨gi, 0, none⟩) il ci) := (heap_set_far _ _ _ _ (by omega)).trans HF1.out
    have g2 : Boxed (w6.setCell ⟨w1.heap.size + 1, 0, none⟩ (.slice (some ⟨g6, 0, none⟩) l6 c6)) (w1.heap.size + 1 + 1 + 1) 3 (.int .i64 (k : Int)) := (heap_set_far _ _ _ _ (by omega)).trans HF2.out
    refine hK.out _ _ ⟨g1.cell, g2.cell⟩ (fun hHeld5 => ?_)
    clear hK K g1 g2 y1 y2
    have h7 : Boxed (w6.setCell ⟨w1.heap.size + 1, 0, none⟩ (.slice (some ⟨g6, 0, none⟩) l6 c6)) (w1.heap.size + 1) 25 (.slice (some ⟨g6, 0, none⟩) l6 c6) := HF0.out.set _
    have ho7 : (w6.setCell ⟨w1.heap.size + 1, 0, none⟩ (.slice (some ⟨g6, 0, none⟩) l6 c6)).ownsRow w.heap.size 5 1 (.slice (some ⟨g6, 0, none⟩) l6 c6) l6 (cellsOf x6) := HO6.out.kept (grownBy_setCell' w6 (w1.heap.size + 1) _) (.inr (HF0.out.not_row (by decide) HO6.out).symm)
    have hd7 : (w6.setCell ⟨w1.heap.size + 1, 0, none⟩ (.slice (some ⟨g6, 0, none⟩) l6 c6)).heap[D]? = some (.deferred (some [])) := (KeepsOthers.setCell w6 ⟨w1.heap.size + 1, 0, none⟩ _).same _ _ HD6.out rfl
    have hb7 : Below w.heap.size w (w6.setCell ⟨w1.heap.size + 1, 0, none⟩ (.slice (some ⟨g6, 0, none⟩) l6 c6)) := HB6.out.setCell (p := ⟨w1.heap.size + 1, 0, none⟩) (by simp; omega) _
    obtain ⟨W7, HW7⟩ : ∃ W7, Hid (w6.setCell ⟨w1.heap.size + 1, 0, none⟩ (.slice (some ⟨g6, 0, none⟩) l6 c6) = W7) := ⟨_, rfl⟩
    rw [HW7.out] at h7 ho7 hd7 hb7 ⊢
    have d0 := h7.cell
    have HCF2 : Hid _ := putFixed_any (some ⟨g6, 0, none⟩) l6 c6 x6 pl W7 HLC6.out.1 HLC6.out.2 (fun h => by cases h) (own_row_bytes ho7) (by omega) (by have := HX6L.out; omega)
    have HD7 : Hid (W7.heap[D]? = some (.deferred (some []))) := hd7
    have HB7 : Hid (Below w.heap.size w W7) := hb7
    clear h7 ho7 hd7 hb7 hHeld hHeld2 hHeld3 hHeld4 hHeld5
    refine wpAnyH_done (by kernel_rfl) ?_ _
    go_wp2_with fail
    refine Calls.mono HCF2.out ?_
    rintro e w8 ⟨v8, rfl, hown8, hb8⟩
    have hd8 : w8.heap[D]? = some (.deferred (some [])) := (hb8.block _ (Array.getElem?_eq_some_iff.1 HD7.out).1).trans HD7.out
    have HD8 : Hid _ := hd8
    have HR : Hid ((w8.putObj D (.deferred none)).ownsRow w.heap.size 5 1 v8 (fileB es).length (cellsOf (fileB es)) ∧ Below w.heap.size w (w8.putObj D (.deferred none))) := by
      refine ⟨owns_put ?_ _ hd8 rfl, below_put (HB7.out.trans (hb8.mono HB7.out.size)) D _ (by omega)⟩
      rw [HFB.out, HX5.out, HX6.out]
      exact ownsRow_mono hown8 HB7.out.size
    clear hown8 hb8 hd8 HCF2
    go_wp2_with fail
    refine qm_ret ?_
    refine ⟨by simp, .inl ⟨_, _, rfl, run_takeDeferred HD8.out, ?_⟩⟩
    exact ⟨_, results_tmp2 rfl _ _ _, v8, rfl, HR.out.1, HR.out.2⟩
end Go.Proofs.YtcgjhopfdpaocaaDoor
