/-
  Rows of digests put together, and what marlstoneref05.Same answers: contracts over this translation. What clash's OfRange and OfLists answer: contracts over this translation. What slices.Reverse does to digests: a contract over this translation. What clash's across answers: a contract over this translation. What clash's Of and OfTexts answer: contracts over this translation.
-/
import Derived.Test.YtecacjddggljgaaDoorPartCD
import Derived.Test.YtecacjddggljgaaDoorPartCG
import Derived.Test.YtecacjddggljgaaDoorPartEC
import Derived.OwnWalk
import Derived.Lib.OwnBridge
namespace Go.Proofs.YtecacjddggljgaaDoor.Sm
open Go.RowKit
/-- 'append(own, own2...)' of any element. -/
theorem wpList_append_two {ops : Array Oper} {rest : List Oper} {o : Oper} {a : Act} {Q : Exit → Act → World → Prop} (w : World)
    (hg : o.guard = none) (s x : Operand) (t e : TypeId) (hop : o.op = Op.call { callee := Callee.builtin Builtin.append, args := #[s, x], argTypes := #[t, t] })
    (i : TypeInfo) (z : Value) (size bytes : Nat) (ht : Tryd.prog.underlying t = some (.slice e)) (hi : Tryd.prog.info? e = some i) (hz0 : i.zero = some z) (hz1 : i.size = size) (hz2 : i.bytes = bytes) (hzs : z.cells.size = size) (hsz : 0 < size)
    (base : Nat) (v : Value) (n : Nat) (xs : List Value) (hs : a.eval s = v) (hown : w.ownsRow base e size v n xs) (hbase : base ≤ w.heap.size)
    (base2 : Nat) (v2 : Value) (m : Nat) (ys : List Value) (hx : a.eval x = v2) (hown2 : w.ownsRow base2 e size v2 m ys) (h1 : ∀ u ∈ ys, u.oneCell' = true)
    (hb : n + m ≤ 1000000) (hb2 : bytes ≤ 1000)
    (hK : ∀ v' w', w'.ownsRow base e size v' (n + m) (xs ++ ys) → Below base w w' → (∀ k, k < w.heap.size → some k ≠ v.ownBlock → w'.heap[k]? = w.heap[k]?) → wpList Tryd.prog ops Q rest (a.put o.dst v') w') :
    wpList Tryd.prog ops Q (o :: rest) a w := by
  refine BigFrame.wpList_want (by simp [Region.wanted, hg]) fun _ hK2 => ?_
  rcases hown2.2 with ⟨h2, h3⟩ | ⟨g, cap, cur, h2, _⟩
  · subst h3
    have hys : ys = [] := List.eq_nil_of_length_eq_zero (by have := hown2.1; simpa using this)
    subst hys
    rw [h2] at hx
    have hrun := run_append_owned_none (P := Tryd.prog) (w := w) base t o.type e i size ht hi v n xs hown
    unfold Oper.wp
    simp [execOp, hop, resolve, invoke, builtin, hs, hx, hrun, Result.andThen]
    exact hK2 _ _ (hK v w (by rw [List.append_nil]; exact hown) (Below.refl _ _) (fun _ _ _ => rfl))
  · have hmul : (n + m) * bytes ≤ 1000000 * 1000 := Nat.mul_le_mul hb hb2
    rw [h2] at hx hown2
    refine wp_append_own w s x t hop base e i z size bytes ht hi hz0 hz1 hz2 hzs hsz v n xs hs hown ⟨g, 0, none⟩ m cap ys hx hown2.1 (hown2.cells (g := g) rfl) h1 (by unfold maxLen; omega) (by omega) hbase ?_
    intro v' w' a1 a2 _
    exact hK2 _ _ (hK v' w' a1 ((Below.refl _ _).grown a2 hbase (fun k hk => (hown.lt k hk).1)) a2.block)
/-- A row of digests of the call's own, none or empty where it has none. -/
def DgO (w : World) (base : Nat) (v : Value) (ds : List (List UInt8)) : Prop := w.ownsRow base 46 32 v ds.length (digC ds) ∧ ∀ d ∈ ds, d.length = 32
theorem DgO.below {w w' : World} {base B : Nat} {v : Value} {l : List (List UInt8)} (h : DgO w base v l) (hb : Below B w w') (hB : w.heap.size ≤ B) : DgO w' base v l := ⟨own_below h.1 hb hB, h.2⟩
theorem DgO.mono {w : World} {base b' : Nat} {v : Value} {l : List (List UInt8)} (h : DgO w base v l) (hb : b' ≤ base) : DgO w b' v l := ⟨ownsRow_mono h.1 hb, h.2⟩
theorem DgV.o {w : World} {base : Nat} {v : Value} {l : List (List UInt8)} (h : DgV w base v l) : DgO w base v l := ⟨h.1, h.2.2⟩
theorem DgO.path {w : World} {base : Nat} {v : Value} {ds : List (List UInt8)} (h : DgO w base v ds) : ∃ ao c, v = .slice ao ds.length c ∧ ds.length ≤ c ∧ c ≤ 9223372036854775807 ∧ PathV w ao ds := by
  obtain ⟨⟨hl, ⟨rfl, h0⟩ | ⟨g, cap, cur, rfl, hg, hh, hc, hm, hs, ht⟩⟩, hd⟩ := h
  · have : ds = [] := List.length_eq_zero_iff.1 h0
    subst this
    exact ⟨none, 0, rfl, Nat.le_refl _, by omega, ⟨hd, fun h => absurd h (by simp)⟩⟩
  · have h' : DgV w base (.slice (some ⟨g, 0, none⟩) ds.length cap) ds ∨ ds = [] := by
      by_cases he : ds = []
      · exact .inr he
      · exact .inl ⟨⟨hl, .inr ⟨g, cap, cur, rfl, hg, hh, hc, hm, hs, ht⟩⟩, fun h => absurd h he, hd⟩
    rcases h' with h' | h'
    · obtain ⟨ao, c, e, h1, h2, h3, -⟩ := h'.path
      exact ⟨ao, c, e, h1, h2, h3⟩
    · subst h'
      unfold maxLen at hm
      exact ⟨_, cap, rfl, hc, by omega, ⟨hd, fun h => absurd h (by simp)⟩⟩
theorem digC_one (ds : List (List UInt8)) : ∀ u ∈ digC ds, u.oneCell' = true := by
  intro u hu
  obtain ⟨d, -, hd⟩ := List.mem_flatMap.1 hu
  exact cellsOf_one d u hd
theorem dgo_one (w : World) (d : List UInt8) (hd : d.length = 32) : DgO (w.alloc (.cells (cellsOf d).toArray 46)) w.heap.size (.slice (some ⟨w.heap.size, 0, none⟩) 1 1) [d] :=
  ⟨⟨by rw [show digC [d] = cellsOf d by simp [digC], cellsOf_length, hd]; rfl, .inr ⟨w.heap.size, 1, _, rfl, Nat.le_refl _, heap_alloc_new w _, Nat.le_refl _, by unfold maxLen; omega, by rw [dig_size hd], by rw [show digC [d] = cellsOf d by simp [digC]]; exact List.take_of_length_le (by rw [cellsOf_length, hd]; simp)⟩⟩, fun e he => by rw [List.mem_singleton] at he; rw [he]; exact hd⟩
theorem wpList_append_dgo {ops : Array Oper} {rest : List Oper} {o : Oper} {a : Act} {Q : Exit → Act → World → Prop} (w : World)
    (hg : o.guard = none) (s x : Operand) (hop : o.op = Op.call { callee := Callee.builtin Builtin.append, args := #[s, x], argTypes := #[28, 28] })
    (base : Nat) (v : Value) (ds : List (List UInt8)) (hs : a.eval s = v) (hown : DgO w base v ds) (hbase : base ≤ w.heap.size)
    (base2 : Nat) (v2 : Value) (es : List (List UInt8)) (hx : a.eval x = v2) (hown2 : DgO w base2 v2 es) (hb : ds.length + es.length ≤ 1000)
    (hK : ∀ v' w', DgO w' base v' (ds ++ es) → Below base w w' → (∀ k, k < w.heap.size → some k ≠ v.ownBlock → w'.heap[k]? = w.heap[k]?) → wpList Tryd.prog ops Q rest (a.put o.dst v') w') :
    wpList Tryd.prog ops Q (o :: rest) a w := by
  obtain ⟨i0, hi, hz0, hz1, hz2⟩ := info_parts info24
  refine wpList_append_two w hg s x 28 46 hop i0 _ 32 32 Tryd.underlying28 hi hz0 hz1 hz2 (by simp [Value.cells]) (by decide) base v ds.length (digC ds) hs hown.1 hbase base2 v2 es.length (digC es) hx hown2.1 (digC_one es) (by omega) (by decide) ?_
  intro v' w' h1 h2 h3
  refine hK v' w' ⟨by rw [digC_app, List.length_append]; exact h1, fun d hd => ?_⟩ h2 h3
  rcases List.mem_append.1 hd with h | h
  · exact hown.2 d h
  · exact hown2.2 d h
theorem wpList_build_dig {ops : Array Oper} {rest : List Oper} {o : Oper} {a : Act} {Q : Exit → Act → World → Prop} (w : World)
    (hg : o.guard = none) (x : Operand) (hop : o.op = Op.buildSlice 28 1 #[(0, x)]) (d : List UInt8) (hx : a.eval x = dv d) (hd : d.length = 32)
    (hK : wpList Tryd.prog ops Q rest (a.put o.dst (.slice (some ⟨w.heap.size, 0, none⟩) 1 1)) (w.alloc (.cells (cellsOf d).toArray 46))) :
    wpList Tryd.prog ops Q (o :: rest) a w := by
  refine BigFrame.wpList_want (by simp [Region.wanted, hg]) fun K hK2 => ?_
  have h := step_build_dig (ops := ops) (o := o) (a := a) (K := K) (Q := Q) (E := True) w hg x hop d hx hd (hK2 _ _ hK)
  rwa [if_pos (by simp [Region.wanted, hg])] at h
end Go.Proofs.YtecacjddggljgaaDoor.Sm
namespace Go.Proofs.YtecacjddggljgaaDoor.Sm
open Go.RowKit
theorem AnsR.at {o : Option (List UInt8 × List UInt8)} {e : Ending} {w w' : World} {B : Nat} (h : AnsR o e w) (hb : Below B w w') (hB : w.heap.size ≤ B) : AnsR o e w' := by
  obtain ⟨ao, n, c, bo, m, d, he, h1, h2⟩ := h
  exact ⟨ao, n, c, bo, m, d, he, h1.below hb hB, h2.below hb hB⟩
set_option maxHeartbeats 4000000 in
set_option maxRecDepth 100000 in
theorem ofRange_walk (z : Int) (ro : Option Addr) (rn rc : Nat) (x : Int) (qo : Option Addr) (qn qc : Nat) (po : Option Addr) (L pc : Nat) (rt : List UInt8) (b : Bool) (o : Option (List UInt8 × List UInt8)) (w : World)
    (hRO : ∀ W, Below w.heap.size w W → Calls Tryd.prog 63 #[.agg #[.int .i64 z], .slice ro rn rc] W fun e w' => e = .returned (dv rt) ∧ Below W.heap.size W w')
    (hCR : ∀ W, Below w.heap.size w W → Calls Tryd.prog 54 #[.agg #[.int .i64 z], dv rt, .int .i64 (rn : Int), .int .i64 x, .slice qo qn qc, .slice po L pc] W fun e w' => e = .returned (.bool b) ∧ Below W.heap.size W w')
    (hno : b = false → o = none)
    (hPO : b = true → ∀ f W, w.heap.size ≤ f → Below w.heap.size w W → W.heap[f]? = some (.cells (opC z ro rn rc x qo qn qc po L pc) 110 (0, 0)) → Calls Tryd.prog 69 #[.pointer (some ⟨f, 0, none⟩), .int .i64 0, .int .i64 (rn : Int)] W fun e w' => ∃ (p : Option Addr) (T : PT 64), e = .returned (.pointer p) ∧ PairV w' W.heap.size T p ∧ unl T = o ∧ Chg f W w') :
    Calls Tryd.prog 35 #[.agg #[.int .i64 z], .slice ro rn rc, .int .i64 x, .slice qo qn qc, .slice po L pc] w fun e w' => AnsR o e w' ∧ Below w.heap.size w w' := by
  have HRO : Hid (∀ W, Below w.heap.size w W → Calls Tryd.prog 63 #[.agg #[.int .i64 z], .slice ro rn rc] W fun e w' => e = .returned (.agg (cellsOf rt).toArray) ∧ Below W.heap.size W w') := hRO
  have HCR : Hid (∀ W, Below w.heap.size w W → Calls Tryd.prog 54 #[.agg #[.int .i64 z], .agg (cellsOf rt).toArray, .int .i64 (rn : Int), .int .i64 x, .slice qo qn qc, .slice po L pc] W fun e w' => e = .returned (.bool b) ∧ Below W.heap.size W w') := hCR
  have HNO : Hid _ := hno
  have HPO : Hid _ := hPO
  obtain ⟨R, HR⟩ : ∃ R : Ending → World → Prop, Hid (R = fun e w' => AnsR o e w' ∧ Below w.heap.size w w') := ⟨_, rfl⟩
  rw [← HR.out]
  clear hRO hCR hno hPO
  go_enter Tryd.func35, Tryd.ntmps35
  go_upto_region 1 with fail
  have HF := heap_alloc_new w (Obj.cells #[Value.int IntKind.i64 z] 26)
  have HBA := bel_alloc w (Obj.cells #[Value.int IntKind.i64 z] 26)
  obtain ⟨W0, HW0⟩ : ∃ W, Hid (w.alloc (Obj.cells #[Value.int IntKind.i64 z] 26) = W) := ⟨_, rfl⟩
  rw [HW0.out] at HF HBA ⊢
  have HBA : Hid (Below w.heap.size w W0) := HBA
  have HS : Hid (∀ W, Below W0.heap.size W0 W → W.cell? ⟨w.heap.size, 0, none⟩ = some (.int .i64 z)) := fun W hW => bel_cell2 hW (Nat.le_refl _) (by rw [cell_of_row W0 _ 0 _ _ _ HF]; rfl)
  have HW : Hid (∀ W, Below W0.heap.size W0 W → Below w.heap.size w W) := fun W hW => HBA.out.trans (hW.mono HBA.out.size)
  clear HF HW0
  refine wp_region_held_drew (S := fun W => W.cell? ⟨w.heap.size, 0, none⟩ = some (.int .i64 z)) (by kernel_rfl) (HS.out _ (Below.drew (Below.refl _ _))) (fun hS => ?_)
  refine wpAnyH_take (i := 0) (v := ?_) rfl (by kernel_rfl) (by kernel_rfl) (by kernel_rfl) (fun _ _ _ h => h) (Or.inl ⟨by rfl, ?_⟩) (by assumption) ?_
  rotate_left
  · (intro w hSw; (try dsimp only at hSw); go_simp; try with_reducible rfl)
  simp only [Act.put, List.getElem_toArray, List.getElem_cons_zero, List.setIfInBounds_toArray, List.set_cons_zero, List.set_cons_succ]
  refine wpAnyH_take (i := 1) (v := ?_) rfl (by kernel_rfl) (by kernel_rfl) (by kernel_rfl) (fun _ _ _ h => h) (Or.inl ⟨by rfl, ?_⟩) (by assumption) ?_
  rotate_left
  · (intro w hSw; (try dsimp only at hSw); go_simp; try with_reducible rfl)
  simp only [Act.put, List.getElem_toArray, List.getElem_cons_zero, List.getElem_cons_succ, List.setIfInBounds_toArray, List.set_cons_zero, List.set_cons_succ]
  refine wpAnyH_take (i := 2) (v := ?_) rfl (by kernel_rfl) (by kernel_rfl) (by kernel_rfl) (fun _ _ _ h => h) (Or.inl ⟨by rfl, ?_⟩) (by assumption) ?_
  rotate_left
  · (intro w hSw; (try dsimp only at hSw); go_simp; try with_reducible rfl)
  simp only [Act.put, List.getElem_toArray, List.getElem_cons_zero, List.getElem_cons_succ, List.setIfInBounds_toArray, List.set_cons_zero, List.set_cons_succ]
  refine wpAnyH_take (i := 4) (v := ?_) rfl (by kernel_rfl) (by kernel_rfl) (by kernel_rfl) (fun _ _ _ h => h) (Or.inl ⟨by rfl, ?_⟩) (by assumption) ?_
  rotate_left
  · (intro w hSw; (try dsimp only at hSw); go_simp; try with_reducible rfl)
  simp only [Act.put, List.getElem_toArray, List.getElem_cons_zero, List.getElem_cons_succ, List.setIfInBounds_toArray, List.set_cons_zero, List.set_cons_succ]
  refine wpAnyH_take (i := 5) (v := ?_) rfl (by kernel_rfl) (by kernel_rfl) (by kernel_rfl) (fun _ _ _ h => h) (Or.inl ⟨by rfl, ?_⟩) (by assumption) ?_
  rotate_left
  · (intro w hSw; (try dsimp only at hSw); go_simp; try with_reducible rfl)
  simp only [Act.put, List.getElem_toArray, List.getElem_cons_zero, List.getElem_cons_succ, List.setIfInBounds_toArray, List.set_cons_zero, List.set_cons_succ]
  refine wpAnyH_take (i := 6) (v := ?_) rfl (by kernel_rfl) (by kernel_rfl) (by kernel_rfl) (fun _ _ _ h => h) (Or.inl ⟨by rfl, ?_⟩) (by assumption) ?_
  rotate_left
  · (intro w hSw; (try dsimp only at hSw); go_simp; try with_reducible rfl)
  simp only [Act.put, List.getElem_toArray, List.getElem_cons_zero, List.getElem_cons_succ, List.setIfInBounds_toArray, List.set_cons_zero, List.set_cons_succ]
  refine wpAnyH_take (i := 7) (v := ?_) rfl (by kernel_rfl) (by kernel_rfl) (by kernel_rfl) (fun _ _ _ h => h) (Or.inl ⟨by rfl, ?_⟩) (by assumption) ?_
  rotate_left
  · (intro w hSw; (try dsimp only at hSw); go_simp; try with_reducible rfl)
  simp only [Act.put, List.getElem_toArray, List.getElem_cons_zero, List.getElem_cons_succ, List.setIfInBounds_toArray, List.set_cons_zero, List.set_cons_succ]
  refine wpAnyH_take (i := 8) (v := ?_) rfl (by kernel_rfl) (by kernel_rfl) (by kernel_rfl) (fun _ _ _ h => h) (Or.inl ⟨by rfl, ?_⟩) (by assumption) ?_
  rotate_left
  · (intro w hSw; (try dsimp only at hSw); go_simp; try with_reducible rfl)
  simp only [Act.put, List.getElem_toArray, List.getElem_cons_zero, List.getElem_cons_succ, List.setIfInBounds_toArray, List.set_cons_zero, List.set_cons_succ]
  refine wpAnyH_ready (rs := [3]) (by kernel_rfl) (by simp) ?_
  refine AllReadyH.cons rfl (fun K hK => ?_) AllReadyH.nil
  go_simp
  refine (HRO.out _ (HW.out _ (Below.drew (Below.refl _ _)))).mono ?_
  rintro e w1 ⟨rfl, hb1⟩
  have HB1 : Hid (Below W0.heap.size W0 w1) := (Below.drew (Below.refl _ _)).trans hb1
  go_wp2_with fail
  refine hK.out _ _ (HS.out _ HB1.out) (fun hHeld2 => ?_)
  clear hK K hb1
  refine wpAnyH_ready (rs := [9]) (by kernel_rfl) (by simp) ?_
  refine AllReadyH.cons rfl (fun K hK => ?_) AllReadyH.nil
  go_simp
  refine (HCR.out _ (HW.out _ HB1.out)).mono ?_
  rintro e w2 ⟨rfl, hb2⟩
  have HB2 : Hid (Below W0.heap.size W0 w2) := HB1.out.trans (hb2.mono HB1.out.size)
  go_wp2_with fail
  refine hK.out _ _ (HS.out _ HB2.out) (fun hHeld2 => ?_)
  clear hK K hb2
  refine wpAnyH_take (i := 10) (v := ?_) rfl (by kernel_rfl) (by kernel_rfl) (by kernel_rfl) (fun _ _ _ h => h) (Or.inl ⟨by rfl, ?_⟩) (by assumption) ?_
  rotate_left
  · (intro w hSw; (try dsimp only at hSw); go_simp; try with_reducible rfl)
  simp only [Act.put, List.getElem_toArray, List.getElem_cons_zero, List.getElem_cons_succ, List.setIfInBounds_toArray, List.set_cons_zero, List.set_cons_succ]
  refine wpAnyH_done (by kernel_rfl) ?_ _
  clear hS hHeld2
  cases b with
  | false =>
    go_wp2_with fail
    go_ret3
    rw [HR.out, HNO.out (by first | rfl | trivial)]
    exact ⟨ansr_none _, HW.out _ HB2.out⟩
  | true =>
    have hc2 := HS.out _ HB2.out
    go_upto_region 4 with fail
    have hn2 : (w2.alloc (Obj.cells #[.int .i64 z, .slice ro rn rc, .int .i64 x, .slice qo qn qc, .slice po L pc] 110)).heap[w2.heap.size]? = some (.cells (opC z ro rn rc x qo qn qc po L pc) 110 (0, 0)) := heap_alloc_new w2 _
    have hb2 := bel_alloc w2 (Obj.cells #[.int .i64 z, .slice ro rn rc, .int .i64 x, .slice qo qn qc, .slice po L pc] 110)
    obtain ⟨W3, HW3⟩ : ∃ W, Hid (w2.alloc (Obj.cells #[.int .i64 z, .slice ro rn rc, .int .i64 x, .slice qo qn qc, .slice po L pc] 110) = W) := ⟨_, rfl⟩
    rw [HW3.out] at hn2 hb2 ⊢
    have HB3 : Hid (Below w.heap.size w W3) := HW.out _ (HB2.out.trans (hb2.mono HB2.out.size))
    have HZ : Hid (w.heap.size ≤ w2.heap.size) := (HW.out _ HB2.out).size
    have HP := HPO.out rfl w2.heap.size W3 HZ.out HB3.out hn2
    have HP : Hid _ := HP
    clear hn2 hb2 HW3 hc2
    go_wp2_with fail
    refine Calls.mono HP.out ?_
    rintro e w4 ⟨p, T, rfl, hpv, hun, hc4⟩
    have HB4 : Hid (Below w.heap.size w w4) := HB3.out.trans (hc4.below HZ.out HB3.out.size)
    have HFA : Hid (Calls Tryd.prog 68 #[.pointer p] w4 fun e w' => AnsR (unl T) e w' ∧ Below w4.heap.size w4 w') := first_any _ T p w4 hpv
    rw [hun] at HFA
    clear hpv hun hc4
    go_wp2_with fail
    refine Calls.mono HFA.out ?_
    rintro e w5 ⟨ha, hb5⟩
    have HB5 : Hid (Below w.heap.size w w5) := HB4.out.trans (hb5.mono HB4.out.size)
    have HAN : Hid _ := ha
    obtain ⟨ao, n, c, bo, m, d, rfl, -, -⟩ := ha
    clear hb5
    go_wp2_with fail
    go_ret3
    rw [HR.out]
    exact ⟨HAN.out, HB5.out⟩
theorem ofRange_any (z : Int) (ro : Option Addr) (rn rc : Nat) (real : List LV) (x : Int) (qo : Option Addr) (qn qc : Nat) (part : List LV) (po : Option Addr) (L pc : Nat) (ds : List (List UInt8)) (w : World) (hReal : LeavesV w ro rn rc real) (hr : rn ≤ 1000) (hPart : LeavesV w qo qn qc part) (hq : qn ≤ 1000) (hP : PathV w po ds) (hl : ds.length = L) (hLc : L ≤ pc) (hK : WW w 1 ks) (hz0 : 1 < w.heap.size) (hz : -9223372036854775808 ≤ z ∧ z ≤ 9223372036854775807) :
    Calls Tryd.prog 35 #[.agg #[.int .i64 z], .slice ro rn rc, .int .i64 x, .slice qo qn qc, .slice po L pc] w fun e w' => AnsR (ofR z real part x ds) e w' ∧ Below w.heap.size w w' := by
  have hrl := hReal.1
  have hql := hPart.1
  refine ofRange_walk z ro rn rc x qo qn qc po L pc (rootD z (bytesL real)) (crB z (rootD z (bytesL real)) rn x part ds) _ w (fun W hW => ?_) (fun W hW => ?_) (fun h => ?_) (fun h f W hf hW hfr => ?_)
  · exact root_any z hz rn ro rc real W (hReal.below hW (Nat.le_refl _)) hr (hK.below hW hz0) (Nat.lt_of_lt_of_le hz0 hW.size)
  · exact crange_any z _ rn x qo qn qc part po L pc ds W (rootD_length _ _) (by omega) hl hLc (hP.below hW (Nat.le_refl _)) (hPart.below hW (Nat.le_refl _)) hq (hK.below hW hz0) (Nat.lt_of_lt_of_le hz0 hW.size) hz
  · exact ofR_no z real part x ds (by rw [hrl]; exact h)
  · have hc := h
    unfold crB at h
    rw [Bool.and_eq_true, decide_eq_true_eq, Int.toNat_natCast] at h
    obtain ⟨⟨h0, h1, h2, h3⟩, -⟩ := h
    obtain ⟨i, rfl⟩ : ∃ m : Nat, x = (m : Int) := ⟨x.toNat, by omega⟩
    rw [Int.toNat_natCast, hql] at h3
    obtain ⟨rb, rf, rfl, -⟩ := hReal.2.2.2 (by omega)
    obtain ⟨qb, qf, rfl, -⟩ := hPart.2.2.2 (by omega)
    rw [← hl] at hfr
    have hp := pow63
    refine (pair_any z i (i + qn) (by omega) real part rb rf rn rc qb qf qn qc f w hReal hPart rfl (by omega) hr hK hz0 hz hf (by omega) 63 0 rn ds po pc W (by omega) (by omega) (Nat.le_refl _) hW hfr hP (by omega) (by omega)).mono ?_
    rintro e w' ⟨p, rfl, h4, -, h5⟩
    refine ⟨p, _, rfl, h4, ?_, h5⟩
    unfold ofR
    rw [hrl, hql, if_pos hc, Int.toNat_natCast]
end Go.Proofs.YtecacjddggljgaaDoor.Sm
namespace Go.Proofs
open Go.Shelf
def Tryd.revD_ren : Go.Shelf.Ren := ⟨fun | 35 => 92 | n => n, fun | 23 => 46 | 22 => 28 | 3 => 3 | 4 => 4 | 0 => 0 | n => n, fun | n => n⟩
theorem Tryd.revD : Go.Proofs.SlLaysE0.n35 Tryd.prog Tryd.revD_ren := {
  mixed := by kernel_rfl
  f35 := ⟨Tryd.f92.name, by decide, Tryd.func92.trans (congrArg some (by kernel_rfl))⟩
  t0 := Tryd.underlying0
  a0 := Tryd.isAgg0
  z0 := Tryd.sizeOf0
  v0 := Tryd.zeroValue0
  t3 := Tryd.underlying3
  a3 := Tryd.isAgg3
  z3 := Tryd.sizeOf3
  v3 := Tryd.zeroValue3
  t4 := Tryd.underlying4
  a4 := Tryd.isAgg4
  z4 := Tryd.sizeOf4
  v4 := Tryd.zeroValue4
  t22 := Tryd.underlying28
  a22 := Tryd.isAgg28
  z22 := Tryd.sizeOf28
  v22 := Tryd.zeroValue28 }
end Go.Proofs
namespace Go.Proofs.YtecacjddggljgaaDoor.Sm
open Go.RowKit Go.Sort Go.Shelf
abbrev D32 : Type := { d : List UInt8 // d.length = 32 }
def encD (p : D32) : List Value := cellsOf p.1
theorem encD_len (p : D32) : (encD p).length = 32 := by unfold encD; rw [cellsOf_length, p.2]
theorem encD_one (p : D32) : ∀ u ∈ encD p, u.oneCell' = true := cellsOf_one _
theorem flat_dig [Inhabited D32] (l : List D32) : (flatK encD 32 l.toArray).toList = digC (l.map (·.1)) := by
  have hl : ∀ e ∈ l.map (fun x : D32 => x.1), e.length = 32 := fun e he => by
    obtain ⟨x, -, rfl⟩ := List.mem_map.1 he
    exact x.2
  have hn : (digC (l.map (fun x : D32 => x.1))).length = l.length * 32 := by rw [digC_length _ hl, List.length_map]
  apply List.ext_getElem?
  intro t
  by_cases ht : t < l.length * 32
  · have hk : t / 32 < l.length := by omega
    have h1 := digC_at (l.map (fun x : D32 => x.1)) (t / 32) (l[t / 32]'hk).1 (t % 32) hl (by rw [List.getElem?_map, List.getElem?_eq_getElem hk]; rfl) (by omega)
    rw [show t / 32 * 32 + t % 32 = t by omega] at h1
    rw [h1, Array.getElem?_toList, flatK, Array.getElem?_map, Array.getElem?_range, if_pos (by simpa using ht)]
    simp only [Option.map_some]
    have e1 : l.toArray[t / 32]! = l[t / 32]'hk := by simp [getElem!_pos, hk]
    have h32 : t % 32 < (cellsOf (l[t / 32]'hk).1).length := by rw [cellsOf_length, (l[t / 32]'hk).2]; omega
    rw [e1, encD, List.getElem?_eq_getElem h32, List.getElem!_eq_getElem?_getD, List.getElem?_eq_getElem h32]
    rfl
  · rw [List.getElem?_eq_none (by simp; omega), List.getElem?_eq_none (by omega)]
theorem d32_list : ∀ (ds : List (List UInt8)), (∀ d ∈ ds, d.length = 32) → ∃ l : List D32, l.map (·.1) = ds
  | [], _ => ⟨[], rfl⟩
  | d :: ds, h => by
    obtain ⟨l, hl⟩ := d32_list ds (fun e he => h e (by simp [he]))
    exact ⟨⟨d, h d (by simp)⟩ :: l, by rw [List.map_cons, hl]⟩
theorem own_put {w : World} {base g n cap q : Nat} {xs : List Value} {F : Array Value} (h : w.ownsRow base 46 32 (.slice (some ⟨g, 0, none⟩) n cap) n xs) (hF : F.size = n * 32) : (putRow id (Sort.ahead w q) g 0 F).ownsRow base 46 32 (.slice (some ⟨g, 0, none⟩) n cap) n F.toList := by
  rcases h.2 with ⟨e0, _⟩ | ⟨g', cap', cur, e0, hb, hg, hn, hm, hs, ht⟩
  · cases e0
  · injection e0 with e1 _ e3
    injection e1 with e1
    injection e1 with e1
    subst e1; subst e3
    refine ⟨by simpa using hF, .inr ⟨g, cap, putCells id 0 F cur, rfl, hb, ?_, hn, hm, by simpa [putCells] using hs, ?_⟩⟩
    · simp [putRow, mapBlock, Sort.ahead, Array.getElem?_modify, hg, onCells]
    · apply List.ext_getElem?
      intro j
      rw [List.getElem?_take, Array.getElem?_toList, Array.getElem?_toList]
      by_cases hj : j < n * 32
      · have hjc : j < cur.size := by rw [hs]; exact Nat.lt_of_lt_of_le hj (Nat.mul_le_mul_right _ hn)
        simp only [if_pos hj, putCells, Array.getElem?_mapIdx, Array.getElem?_eq_getElem hjc, Option.map_some]
        rw [if_pos (by omega), Array.getElem?_eq_getElem (by omega)]
        simp [getElem!_pos, show j < F.size by omega]
      · rw [if_neg hj, Array.getElem?_eq_none (by omega)]
theorem own_holdsD {w : World} {base g n cap : Nat} {xs : List Value} {F : Array Value} (h : w.ownsRow base 46 32 (.slice (some ⟨g, 0, none⟩) n cap) n xs) (hF : F.toList = xs) : Holds id w g 0 F := by
  intro t ht
  refine ⟨?_, ?_⟩
  · have := h.cells (g := g) rfl t (F[t]!) (by rw [← hF, Array.getElem?_toList, Array.getElem?_eq_getElem ht, getElem!_pos F t ht])
    rw [Addr.add_lit] at this
    exact this
  · rcases h.2 with ⟨h0, _⟩ | ⟨g', cap', cur, hv, _, hg, _⟩
    · cases h0
    · cases hv
      exact frozen_of_row w g _ _ 46 hg
/-- slices.Reverse of digests. -/
theorem reverseD_any [Inhabited D32] (base : Nat) (v : Value) (ds : List (List UInt8)) (w : World) (h : DgO w base v ds) (hn : ds.length ≤ 64) :
    Calls Tryd.prog 92 #[v] w fun e w' => e = .returned (.tuple #[]) ∧ DgO w' base v ds.reverse ∧ (∀ k, some k ≠ v.ownBlock → w'.heap[k]? = w.heap[k]?) ∧ Below base w w' := by
  obtain ⟨l, hl⟩ := d32_list ds h.2
  have hll : ds.length = l.length := by rw [← hl, List.length_map]
  rcases h.1.2 with ⟨h1, h2⟩ | ⟨g, cap, cur, h1, hg, _⟩
  · have hd : ds = [] := List.eq_nil_of_length_eq_zero h2
    subst hd
    subst h1
    refine (AnyQ.slices_Reverse_empty Tryd.revD none 0 w).mono ?_
    rintro e w' ⟨rfl, rfl⟩
    exact ⟨rfl, h, fun _ _ => rfl, Below.refl _ _⟩
  · subst h1
    have hf := flat_dig l
    rw [hl] at hf
    have hH : HoldsK encD 32 w g 0 l.toArray := own_holdsD h.1 hf
    have hc := AnyQ.slices_Reverse Tryd.revD 32 Tryd.isAgg46 Tryd.sizeOf46 encD encD_len encD_one g 0 cap l.toArray w hH (by simp; omega)
    have e1 : l.toArray.size = ds.length := by simp [hll]
    rw [e1] at hc
    refine hc.mono ?_
    rintro e w' ⟨rfl, n, rfl⟩
    have hr : l.toArray.reverse = l.reverse.toArray := by simp
    have hf2 := flat_dig l.reverse
    rw [List.map_reverse, hl] at hf2
    have ho := own_put (q := n) (F := flatK encD 32 l.toArray.reverse) h.1 (by rw [size_flatK]; simp [hll])
    rw [hr, hf2] at ho
    refine ⟨rfl, ⟨?_, fun d hd => h.2 d (List.mem_reverse.1 hd)⟩, fun k hk => ?_, Lib.below_putRow (Below.refl _ _) hg⟩
    · rw [List.length_reverse, hr]; exact ho
    · show (w.heap.modify g _)[k]? = _
      rw [Array.getElem?_modify, if_neg (fun e => hk (by rw [← e]; rfl))]
end Go.Proofs.YtecacjddggljgaaDoor.Sm
namespace Go.Proofs.YtecacjddggljgaaDoor.Sm
open Go.RowKit
/-- A digest put behind others: where they lie then. -/
theorem wpList_append_dgAt {ops : Array Oper} {rest : List Oper} {o : Oper} {a : Act} {Q : Exit → Act → World → Prop} (w : World)
    (hg : o.guard = none) (s x : Operand) (hop : o.op = Op.call { callee := Callee.builtin Builtin.append, args := #[s, x], argTypes := #[28, 28] })
    (base : Nat) (v : Value) (ds : List (List UInt8)) (hs : a.eval s = v) (hown : DgO w base v ds) (hbase : base ≤ w.heap.size)
    (ad : Addr) (c : Nat) (d : List UInt8) (hx : a.eval x = .slice (some ad) 1 c) (hd : d.length = 32) (hnews : ∀ j u, (cellsOf d)[j]? = some u → w.cell? (ad.add j) = some u) (hb : ds.length + 1 ≤ 1000)
    (hK : ∀ v' w', DgO w' base v' (ds ++ [d]) → w.grownBy w' v.ownBlock → (v'.ownBlock = v.ownBlock ∨ v'.ownBlock = some w.heap.size) → wpList Tryd.prog ops Q rest (a.put o.dst v') w') :
    wpList Tryd.prog ops Q (o :: rest) a w := by
  obtain ⟨i0, hi, hz0, hz1, hz2⟩ := info_parts info24
  refine wpList_append_own_at w hg s x 28 hop base 46 i0 _ 32 32 Tryd.underlying28 hi hz0 hz1 hz2 (by simp [Value.cells]) (by decide) v ds.length (digC ds) hs hown.1 ad 1 c (cellsOf d) hx (by rw [cellsOf_length, hd]) hnews (cellsOf_one d) (by unfold maxLen; omega) (by omega) hbase ?_
  intro v' w' h1 h2 _ h4
  refine hK v' w' ⟨?_, fun e he => ?_⟩ h2 h4
  · rw [digC_app, List.length_append, show digC [d] = cellsOf d from by simp [digC]]; exact h1
  · rcases List.mem_append.1 he with h | h
    · exact hown.2 e h
    · rw [List.mem_singleton.1 h]; exact hd
theorem dgo_nil (w : World) (base : Nat) : DgO w base (.slice none 0 0) [] := ⟨World.ownsRow_nil _ _ _ _, fun d hd => by cases hd⟩
theorem take_rev (ds : List (List UInt8)) (r : Nat) (d : List UInt8) (h : ds[r]? = some d) : (ds.take (r + 1)).reverse = d :: (ds.take r).reverse := by
  obtain ⟨h1, h2⟩ := List.getElem?_eq_some_iff.1 h
  rw [List.take_add_one, h]; simp
set_option maxHeartbeats 4000000 in
set_option maxRecDepth 100000 in
theorem across_any (n i : Nat) (po : Option Addr) (L pc : Nat) (ds : List (List UInt8)) (w : World) (hi0 : i < n) (hn : n ≤ 9223372036854775807) (hl : ds.length = L) (hL : L = (dnL 0 n i).length) (hP : PathV w po ds) :
    Calls Tryd.prog 66 #[.int .i64 (n : Int), .int .i64 (i : Int), .slice po L pc] w fun e w' => ∃ v, e = .returned v ∧ DgO w' w.heap.size v (acrD n i ds) ∧ Below w.heap.size w w' := by
  have HLT : Hid (i < n ∧ n ≤ 9223372036854775807) := ⟨hi0, hn⟩
  have HL64 : Hid (L ≤ 64) := by show _ ≤ _; rw [hL]; exact dnL_len _ _ _
  have HLL : Hid (L = (dnL 0 n i).length) := hL
  have HDS : Hid (ds.length = L) := hl
  have HPV : Hid (PathV w po ds) := hP
  have hsub1 : wrap64 ((L : Int) - 1) = (L : Int) - 1 := by have := HL64.out; unfold wrap64; omega
  clear hi0 hn hl hL hP
  go_enter Tryd.func66, Tryd.ntmps66
  go_wp2_with fail
  simp only [hsub1]
  clear hsub1
  go_loopw [0, 1, 7, 8, 9, 10] (fun s0 s1 s7 s8 s9 _ wr => ∃ (r a b : Nat) (lf rg : List (List UInt8)), s9 = .int .i64 ((r : Int) - 1) ∧ r ≤ L ∧ s0 = .int .i64 ((b - a : Nat) : Int) ∧ s1 = .int .i64 ((i - a : Nat) : Int) ∧ Hid (a ≤ i ∧ i < b ∧ b ≤ n) ∧ Hid (r = (dnL a b i).length) ∧ Hid (lf ++ acrF (b - a) (i - a) (ds.take r).reverse ++ rg.reverse = acrF n i ds.reverse) ∧ Hid (DgO wr w.heap.size s7 lf) ∧ Hid (DgO wr w.heap.size s8 rg) ∧ Hid (∀ g, s7.ownBlock = some g → s8.ownBlock ≠ some g) ∧ Hid (Below w.heap.size w wr) ∧ Hid (lf.length + rg.length + r = L)) (fun _ _ _ _ x _ _ => (intOf x + 1).toNat)
  case atStart =>
    refine ⟨L, 0, n, [], [], rfl, Nat.le_refl _, rfl, rfl, ⟨Nat.zero_le _, HLT.out.1, Nat.le_refl _⟩, HLL, ?_, dgo_nil _ _, dgo_nil _ _, fun g h => (by cases h), Below.refl _ _, by show _ = _; simp⟩
    show _ = _
    rw [← HDS.out, List.take_length]; simp
  case round =>
    obtain ⟨r, a, b, lf, rg, rfl, hrL, rfl, rfl, HAB, HDN, HAC, HO7, HO8, HAP, HBE, HLEN⟩ := hrel
    have HRL : Hid (r ≤ L) := hrL
    clear hrL
    cases r with
    | zero =>
      have hge : ¬ (0 : Int) ≤ ((0 : Nat) : Int) - 1 := by omega
      have HRV : Hid (Calls Tryd.prog 92 #[u8] wr fun e w' => e = .returned (.tuple #[]) ∧ DgO w' w.heap.size u8 rg.reverse ∧ (∀ k, some k ≠ u8.ownBlock → w'.heap[k]? = wr.heap[k]?) ∧ Below w.heap.size wr w') := by
        haveI : Inhabited D32 := ⟨⟨List.replicate 32 0, by simp⟩⟩
        exact reverseD_any w.heap.size u8 rg wr HO8.out (by have := HLEN.out; have := HL64.out; omega)
      go_wp2_with fail
      refine Calls.mono HRV.out ?_
      rintro e w2 ⟨rfl, hr2, hk2, hb2⟩
      have HR2 : Hid (DgO w2 w.heap.size u8 rg.reverse) := hr2
      have HL2 : Hid (DgO w2 w.heap.size u7 lf) := ⟨own_keep HO7.out.1 (fun q hq => hk2 q (fun e => HAP.out q hq e.symm)), HO7.out.2⟩
      have HB2 : Hid (Below w.heap.size w w2) := HBE.out.trans hb2
      have HZ2 : Hid (w.heap.size ≤ w2.heap.size) := HB2.out.size
      clear hr2 hk2 hb2 hge
      go_wp2_with (at_builtin; refine wpList_append_dgo _ rfl (.tmp 46) (.tmp 47) rfl w.heap.size _ lf rfl HL2.out HZ2.out w.heap.size _ rg.reverse rfl HR2.out (by have := HLEN.out; have := HL64.out; simp; omega) ?_)
      intro v6 w6 hown6 hb6 _
      have HO6 : Hid (DgO w6 w.heap.size v6 (lf ++ rg.reverse)) := hown6
      have HB6 : Hid (Below w.heap.size w w6) := HB2.out.trans hb6
      clear hown6 hb6
      go_wp2_with fail
      go_ret
      refine ⟨v6, rfl, ?_, HB6.out⟩
      have h := HAC.out
      rw [List.take_zero, List.reverse_nil, acrF, List.append_nil] at h
      unfold acrD
      rw [← h]
      exact HO6.out
    | succ r =>
      have hk : (((r + 1 : Nat) : Int) - 1) = (r : Int) := by omega
      simp only [hk]
      have hge : (0 : Int) ≤ (r : Int) := by omega
      have hge2 : ¬ (r : Int) < 0 := by omega
      have hn1 : 2 ≤ b - a := by
        rcases Nat.lt_or_ge (b - a) 2 with h | h
        · have h5 := HDN.out; rw [dnL_one i (by omega)] at h5; simp at h5
        · exact h
      obtain ⟨s1, s2, -⟩ := halfN_spec (b - a) hn1 (by have := HAB.out; have := HLT.out; omega)
      have HLC : Hid (∀ W, Calls Tryd.prog 91 #[.int .i64 ((b - a : Nat) : Int)] W fun e w' => e = .returned (.int .i64 (halfN (b - a) : Int)) ∧ Below W.heap.size W w') := fun W => left_any (b - a) W hn1 (by have := HAB.out; have := HLT.out; omega)
      have HD2 : Hid _ := dnL_two i hn1 (by have := HAB.out; have := HLT.out; omega)
      obtain ⟨hh, HHN⟩ : ∃ x : Nat, Hid (halfN (b - a) = x) := ⟨_, rfl⟩
      rw [HHN.out] at HLC s1 s2
      obtain ⟨m, HMa⟩ : ∃ m : Nat, Hid (a + hh = m) := ⟨_, rfl⟩
      have HM : Hid (a + halfN (b - a) = m) := by show _ = _; rw [HHN.out]; exact HMa.out
      rw [HM.out] at HD2
      have HMM : Hid (a < m ∧ m < b) := by have := HMa.out; show _ ∧ _; omega
      obtain ⟨dd, HDD⟩ : ∃ d, Hid (ds[r]? = some d) := ⟨_, List.getElem?_eq_getElem (by have := HRL.out; have := HDS.out; omega)⟩
      have HTK : Hid _ := take_rev ds r dd HDD.out
      obtain ⟨pb, off, hpo, hpr⟩ := HPV.out.2 (by have := HRL.out; have := HDS.out; omega)
      subst hpo
      have HDL : Hid (dd.length = 32) := HPV.out.1 dd (List.mem_of_getElem? HDD.out)
      have HID : Hid ((Tryd.prog.info? 46).map (·.size) = some (cellsOf dd).length) := by show _ = _; rw [size24, cellsOf_length, HDL.out]
      have HPX0 : Hid (w.rangeAt pb (off + r * 32) (cellsOf dd)) := hpr r dd HDD.out
      have hrL : (r : Int) < (L : Int) := by have := HRL.out; omega
      have hrLn : r < L := by have := HRL.out; omega
      have hdec : wrap64 ((r : Int) - 1) = (r : Int) - 1 := by have := HL64.out; unfold wrap64; omega
      clear hk s1 s2 hn1 hpr
      go_wp2_with fail
      refine (HLC.out _).mono ?_
      rintro e wb ⟨rfl, hb1⟩
      have HBB : Hid (Below w.heap.size w wb) := HBE.out.trans (hb1.mono HBE.out.size)
      have HPX : Hid (wb.rangeAt pb (off + r * 32) (cellsOf dd)) := range_bel HPX0.out HBB.out (Nat.le_refl _)
      have HO7B : Hid (DgO wb w.heap.size u7 lf) := HO7.out.below hb1 (Nat.le_refl _)
      have HO8B : Hid (DgO wb w.heap.size u8 rg) := HO8.out.below hb1 (Nat.le_refl _)
      clear hb1 hge hge2 HPX0
      by_cases him : i < m
      case pos =>
        have himz : ((i - a : Nat) : Int) < (hh : Int) := by have := HMa.out; have := HAB.out; omega
        have hbm : ((m - a : Nat) : Int) = (hh : Int) := by have := HMa.out; omega
        have HOA : Hid (DgO (wb.alloc (.cells (cellsOf dd).toArray 46)) w.heap.size u8 rg) := ⟨(HO8B.out.1).alloc _, HO8B.out.2⟩
        have HCA : Hid (∀ j u, (cellsOf dd)[j]? = some u → (wb.alloc (.cells (cellsOf dd).toArray 46)).cell? ((⟨wb.heap.size, 0, none⟩ : Addr).add j) = some u) := dig_cells wb dd
        have HBA : Hid (w.heap.size ≤ (wb.alloc (.cells (cellsOf dd).toArray 46)).heap.size) := by show _ ≤ _; have := HBB.out.size; simp; omega
        go_wp2_with (first | (refine wpList_load_mid rfl 46 (.tmp 26) rfl pb (off + r * 32) rfl (cellsOf dd) _ HPX.out Tryd.underlying46 rfl HID.out ?_) | (refine wpList_build_dig _ rfl (.tmp 27) rfl dd rfl HDL.out ?_) | (at_builtin; refine wpList_append_dgAt _ rfl (.tmp 23) (.tmp 28) rfl w.heap.size _ rg rfl HOA.out HBA.out ⟨wb.heap.size, 0, none⟩ 1 dd rfl HDL.out HCA.out (by have := HLEN.out; have := HL64.out; omega) ?_))
        intro v6 w6 hown6 hgr6 hloc6
        have HO6 : Hid (DgO w6 w.heap.size v6 (rg ++ [dd])) := hown6
        have HB6 : Hid (Below w.heap.size w w6) := (HBB.out.alloc HBB.out.size _).trans ((Below.refl _ _).grown hgr6 HBA.out (fun k hk => (HOA.out.1.lt k hk).1))
        have HOT : Hid (DgO w6 w.heap.size u7 lf) := ⟨own_keep HO7B.out.1 (fun q hq => by
          have hlt := (HO7B.out.1.lt q hq).2
          rw [hgr6.block q (by simp; omega) (fun e => (HAP.out q hq) e.symm)]
          exact Below.heap_alloc _ _ _ hlt), HO7B.out.2⟩
        have HAP6 : Hid (∀ g, u7.ownBlock = some g → v6.ownBlock ≠ some g) := fun q hq hq2 => by
          rcases hloc6 with hl | hl
          · rw [hl] at hq2; exact HAP.out q hq hq2
          · rw [hl] at hq2; injection hq2 with e; have := (HO7B.out.1.lt q hq).2; (try simp at e); omega
        clear hown6 hgr6 hloc6
        go_wp2_with fail
        refine ⟨⟨r, a, m, lf, rg ++ [dd], by first | rfl | (simp; omega), by have := HRL.out; omega, by have := HM.out; simp; omega, rfl, ?_, ?_, ?_, HOT, HO6, HAP6, HB6, ?_⟩, by simp [intOf]; omega⟩
        · have := HAB.out; have := HMM.out; show _ ∧ _; omega
        · have h := HDN.out; rw [HD2.out, if_pos him] at h; show _ = _; rw [List.length_cons] at h; omega
        · have h := HAC.out
          rw [HTK.out, acrF, if_pos (by have := HM.out; have := HAB.out; omega)] at h
          show _ = _
          rw [← h, List.reverse_append, show m - a = halfN (b - a) from by have := HM.out; omega]
          simp
        · have := HLEN.out; show _ = _; rw [List.length_append]; simp; omega
      case neg =>
        have himz : ¬ ((i - a : Nat) : Int) < (hh : Int) := by have := HMa.out; have := HAB.out; omega
        have hs1 : wrap64 (((i - a : Nat) : Int) - (hh : Int)) = ((i - m : Nat) : Int) := by rw [wsub (by have := HMa.out; have := HAB.out; omega) (by have := HAB.out; have := HLT.out; omega)]; congr 1; have := HMa.out; omega
        have hs2 : wrap64 (((b - a : Nat) : Int) - (hh : Int)) = ((b - m : Nat) : Int) := by rw [wsub (by have := HMa.out; have := HMM.out; omega) (by have := HAB.out; have := HLT.out; omega)]; congr 1; have := HMa.out; omega
        have HOA : Hid (DgO (wb.alloc (.cells (cellsOf dd).toArray 46)) w.heap.size u7 lf) := ⟨(HO7B.out.1).alloc _, HO7B.out.2⟩
        have HCA : Hid (∀ j u, (cellsOf dd)[j]? = some u → (wb.alloc (.cells (cellsOf dd).toArray 46)).cell? ((⟨wb.heap.size, 0, none⟩ : Addr).add j) = some u) := dig_cells wb dd
        have HBA : Hid (w.heap.size ≤ (wb.alloc (.cells (cellsOf dd).toArray 46)).heap.size) := by show _ ≤ _; have := HBB.out.size; simp; omega
        go_wp2_with (first | (refine wpList_load_mid rfl 46 (.tmp 34) rfl pb (off + r * 32) rfl (cellsOf dd) _ HPX.out Tryd.underlying46 rfl HID.out ?_) | (refine wpList_build_dig _ rfl (.tmp 35) rfl dd rfl HDL.out ?_) | (at_builtin; refine wpList_append_dgAt _ rfl (.tmp 31) (.tmp 36) rfl w.heap.size _ lf rfl HOA.out HBA.out ⟨wb.heap.size, 0, none⟩ 1 dd rfl HDL.out HCA.out (by have := HLEN.out; have := HL64.out; omega) ?_))
        intro v6 w6 hown6 hgr6 hloc6
        have HO6 : Hid (DgO w6 w.heap.size v6 (lf ++ [dd])) := hown6
        have HB6 : Hid (Below w.heap.size w w6) := (HBB.out.alloc HBB.out.size _).trans ((Below.refl _ _).grown hgr6 HBA.out (fun k hk => (HOA.out.1.lt k hk).1))
        have HOT : Hid (DgO w6 w.heap.size u8 rg) := ⟨own_keep HO8B.out.1 (fun q hq => by
          have hlt := (HO8B.out.1.lt q hq).2
          rw [hgr6.block q (by simp; omega) (fun e => (HAP.out q e.symm) hq)]
          exact Below.heap_alloc _ _ _ hlt), HO8B.out.2⟩
        have HAP6 : Hid (∀ g, v6.ownBlock = some g → u8.ownBlock ≠ some g) := fun q hq hq2 => by
          rcases hloc6 with hl | hl
          · rw [hl] at hq; exact HAP.out q hq hq2
          · rw [hl] at hq; injection hq with e; have := (HO8B.out.1.lt q hq2).2; (try simp at e); omega
        clear hown6 hgr6 hloc6
        go_wp2_with fail
        refine ⟨⟨r, m, b, lf ++ [dd], rg, by first | rfl | (simp; omega), by have := HRL.out; omega, by simp only [hs2], by simp only [hs1], ?_, ?_, ?_, HO6, HOT, HAP6, HB6, ?_⟩, by simp [intOf]; omega⟩
        · have := HAB.out; have := HMM.out; show _ ∧ _; omega
        · have h := HDN.out; rw [HD2.out, if_neg him] at h; show _ = _; rw [List.length_cons] at h; omega
        · have h := HAC.out
          rw [HTK.out, acrF, if_neg (by have := HM.out; have := HAB.out; omega)] at h
          show _ = _
          rw [← h, show b - m = b - a - halfN (b - a) from by have := HM.out; omega, show i - m = i - a - halfN (b - a) from by have := HM.out; omega]
          simp
        · have := HLEN.out; show _ = _; rw [List.length_append]; simp; omega
end Go.Proofs.YtecacjddggljgaaDoor.Sm
namespace Go.Proofs.YtecacjddggljgaaDoor.Sm
open Go.RowKit
set_option maxHeartbeats 4000000 in
set_option maxRecDepth 100000 in
theorem of_walk (z : Int) (ro : Option Addr) (rn rc : Nat) (x : Int) (lo : Option Addr) (ln lc : Nat) (po : Option Addr) (L pc : Nat) (rt : List UInt8) (b : Bool) (es : List (List UInt8)) (o : Option (List UInt8 × List UInt8)) (w : World)
    (hRO : ∀ W, Below w.heap.size w W → Calls Tryd.prog 63 #[.agg #[.int .i64 z], .slice ro rn rc] W fun e w' => e = .returned (dv rt) ∧ Below W.heap.size W w')
    (hCK : ∀ W, Below w.heap.size w W → Calls Tryd.prog 65 #[.agg #[.int .i64 z], dv rt, .int .i64 (rn : Int), .int .i64 x, .slice lo ln lc, .slice po L pc] W fun e w' => e = .returned (.bool b) ∧ Below W.heap.size W w')
    (hno : b = false → o = none)
    (hAC : b = true → ∀ W, Below w.heap.size w W → Calls Tryd.prog 66 #[.int .i64 (rn : Int), .int .i64 x, .slice po L pc] W fun e w' => ∃ v, e = .returned v ∧ DgO w' W.heap.size v es ∧ Below W.heap.size W w')
    (hOR : b = true → ∀ W g v base, Below w.heap.size w W → W.heap[g]? = some (.cells #[.slice lo ln lc] 27 (0, 0)) → DgO W base v es → Calls Tryd.prog 35 #[.agg #[.int .i64 z], .slice ro rn rc, .int .i64 x, .slice (some ⟨g, 0, none⟩) 1 1, v] W fun e w' => AnsR o e w' ∧ Below W.heap.size W w') :
    Calls Tryd.prog 33 #[.agg #[.int .i64 z], .slice ro rn rc, .int .i64 x, .slice lo ln lc, .slice po L pc] w fun e w' => AnsR o e w' ∧ Below w.heap.size w w' := by
  have HRO : Hid (∀ W, Below w.heap.size w W → Calls Tryd.prog 63 #[.agg #[.int .i64 z], .slice ro rn rc] W fun e w' => e = .returned (.agg (cellsOf rt).toArray) ∧ Below W.heap.size W w') := hRO
  have HCK : Hid (∀ W, Below w.heap.size w W → Calls Tryd.prog 65 #[.agg #[.int .i64 z], .agg (cellsOf rt).toArray, .int .i64 (rn : Int), .int .i64 x, .slice lo ln lc, .slice po L pc] W fun e w' => e = .returned (.bool b) ∧ Below W.heap.size W w') := hCK
  have HNO : Hid _ := hno
  have HAC : Hid _ := hAC
  have HOR : Hid _ := hOR
  obtain ⟨R, HR⟩ : ∃ R : Ending → World → Prop, Hid (R = fun e w' => AnsR o e w' ∧ Below w.heap.size w w') := ⟨_, rfl⟩
  rw [← HR.out]
  clear hRO hCK hno hAC hOR
  go_enter Tryd.func33, Tryd.ntmps33
  go_upto_region 1 with fail
  have HF := heap_alloc_new w (Obj.cells #[Value.int IntKind.i64 z] 26)
  have HBA := bel_alloc w (Obj.cells #[Value.int IntKind.i64 z] 26)
  obtain ⟨W0, HW0⟩ : ∃ W, Hid (w.alloc (Obj.cells #[Value.int IntKind.i64 z] 26) = W) := ⟨_, rfl⟩
  rw [HW0.out] at HF HBA ⊢
  have HBA : Hid (Below w.heap.size w W0) := HBA
  have HS : Hid (∀ W, Below W0.heap.size W0 W → W.cell? ⟨w.heap.size, 0, none⟩ = some (.int .i64 z)) := fun W hW => bel_cell2 hW (Nat.le_refl _) (by rw [cell_of_row W0 _ 0 _ _ _ HF]; rfl)
  have HW : Hid (∀ W, Below W0.heap.size W0 W → Below w.heap.size w W) := fun W hW => HBA.out.trans (hW.mono HBA.out.size)
  clear HF HW0
  refine wp_region_held_drew (S := fun W => W.cell? ⟨w.heap.size, 0, none⟩ = some (.int .i64 z)) (by kernel_rfl) (HS.out _ (Below.drew (Below.refl _ _))) (fun hS => ?_)
  refine wpAnyH_take (i := 0) (v := ?_) rfl (by kernel_rfl) (by kernel_rfl) (by kernel_rfl) (fun _ _ _ h => h) (Or.inl ⟨by rfl, ?_⟩) (by assumption) ?_
  rotate_left
  · (intro w hSw; (try dsimp only at hSw); go_simp; try with_reducible rfl)
  simp only [Act.put, List.getElem_toArray, List.getElem_cons_zero, List.setIfInBounds_toArray, List.set_cons_zero, List.set_cons_succ]
  refine wpAnyH_take (i := 1) (v := ?_) rfl (by kernel_rfl) (by kernel_rfl) (by kernel_rfl) (fun _ _ _ h => h) (Or.inl ⟨by rfl, ?_⟩) (by assumption) ?_
  rotate_left
  · (intro w hSw; (try dsimp only at hSw); go_simp; try with_reducible rfl)
  simp only [Act.put, List.getElem_toArray, List.getElem_cons_zero, List.getElem_cons_succ, List.setIfInBounds_toArray, List.set_cons_zero, List.set_cons_succ]
  refine wpAnyH_take (i := 2) (v := ?_) rfl (by kernel_rfl) (by kernel_rfl) (by kernel_rfl) (fun _ _ _ h => h) (Or.inl ⟨by rfl, ?_⟩) (by assumption) ?_
  rotate_left
  · (intro w hSw; (try dsimp only at hSw); go_simp; try with_reducible rfl)
  simp only [Act.put, List.getElem_toArray, List.getElem_cons_zero, List.getElem_cons_succ, List.setIfInBounds_toArray, List.set_cons_zero, List.set_cons_succ]
  refine wpAnyH_take (i := 4) (v := ?_) rfl (by kernel_rfl) (by kernel_rfl) (by kernel_rfl) (fun _ _ _ h => h) (Or.inl ⟨by rfl, ?_⟩) (by assumption) ?_
  rotate_left
  · (intro w hSw; (try dsimp only at hSw); go_simp; try with_reducible rfl)
  simp only [Act.put, List.getElem_toArray, List.getElem_cons_zero, List.getElem_cons_succ, List.setIfInBounds_toArray, List.set_cons_zero, List.set_cons_succ]
  refine wpAnyH_take (i := 5) (v := ?_) rfl (by kernel_rfl) (by kernel_rfl) (by kernel_rfl) (fun _ _ _ h => h) (Or.inl ⟨by rfl, ?_⟩) (by assumption) ?_
  rotate_left
  · (intro w hSw; (try dsimp only at hSw); go_simp; try with_reducible rfl)
  simp only [Act.put, List.getElem_toArray, List.getElem_cons_zero, List.getElem_cons_succ, List.setIfInBounds_toArray, List.set_cons_zero, List.set_cons_succ]
  refine wpAnyH_take (i := 6) (v := ?_) rfl (by kernel_rfl) (by kernel_rfl) (by kernel_rfl) (fun _ _ _ h => h) (Or.inl ⟨by rfl, ?_⟩) (by assumption) ?_
  rotate_left
  · (intro w hSw; (try dsimp only at hSw); go_simp; try with_reducible rfl)
  simp only [Act.put, List.getElem_toArray, List.getElem_cons_zero, List.getElem_cons_succ, List.setIfInBounds_toArray, List.set_cons_zero, List.set_cons_succ]
  refine wpAnyH_take (i := 7) (v := ?_) rfl (by kernel_rfl) (by kernel_rfl) (by kernel_rfl) (fun _ _ _ h => h) (Or.inl ⟨by rfl, ?_⟩) (by assumption) ?_
  rotate_left
  · (intro w hSw; (try dsimp only at hSw); go_simp; try with_reducible rfl)
  simp only [Act.put, List.getElem_toArray, List.getElem_cons_zero, List.getElem_cons_succ, List.setIfInBounds_toArray, List.set_cons_zero, List.set_cons_succ]
  refine wpAnyH_take (i := 8) (v := ?_) rfl (by kernel_rfl) (by kernel_rfl) (by kernel_rfl) (fun _ _ _ h => h) (Or.inl ⟨by rfl, ?_⟩) (by assumption) ?_
  rotate_left
  · (intro w hSw; (try dsimp only at hSw); go_simp; try with_reducible rfl)
  simp only [Act.put, List.getElem_toArray, List.getElem_cons_zero, List.getElem_cons_succ, List.setIfInBounds_toArray, List.set_cons_zero, List.set_cons_succ]
  refine wpAnyH_ready (rs := [3]) (by kernel_rfl) (by simp) ?_
  refine AllReadyH.cons rfl (fun K hK => ?_) AllReadyH.nil
  go_simp
  refine (HRO.out _ (HW.out _ (Below.drew (Below.refl _ _)))).mono ?_
  rintro e w1 ⟨rfl, hb1⟩
  have HB1 : Hid (Below W0.heap.size W0 w1) := (Below.drew (Below.refl _ _)).trans hb1
  go_wp2_with fail
  refine hK.out _ _ (HS.out _ HB1.out) (fun hHeld2 => ?_)
  clear hK K hb1
  refine wpAnyH_ready (rs := [9]) (by kernel_rfl) (by simp) ?_
  refine AllReadyH.cons rfl (fun K hK => ?_) AllReadyH.nil
  go_simp
  refine (HCK.out _ (HW.out _ HB1.out)).mono ?_
  rintro e w2 ⟨rfl, hb2⟩
  have HB2 : Hid (Below W0.heap.size W0 w2) := HB1.out.trans (hb2.mono HB1.out.size)
  go_wp2_with fail
  refine hK.out _ _ (HS.out _ HB2.out) (fun hHeld2 => ?_)
  clear hK K hb2
  refine wpAnyH_take (i := 10) (v := ?_) rfl (by kernel_rfl) (by kernel_rfl) (by kernel_rfl) (fun _ _ _ h => h) (Or.inl ⟨by rfl, ?_⟩) (by assumption) ?_
  rotate_left
  · (intro w hSw; (try dsimp only at hSw); go_simp; try with_reducible rfl)
  simp only [Act.put, List.getElem_toArray, List.getElem_cons_zero, List.getElem_cons_succ, List.setIfInBounds_toArray, List.set_cons_zero, List.set_cons_succ]
  refine wpAnyH_done (by kernel_rfl) ?_ _
  clear hS hHeld2
  cases b with
  | false =>
    go_wp2_with fail
    go_ret3
    rw [HR.out, HNO.out (by first | rfl | trivial)]
    exact ⟨ansr_none _, HW.out _ HB2.out⟩
  | true =>
    have HA : Hid _ := HAC.out rfl
    have HO : Hid _ := HOR.out rfl
    go_upto_region 3 with fail
    refine wp_region_held_drew (S := fun W => W.cell? ⟨w.heap.size, 0, none⟩ = some (.int .i64 z)) (by kernel_rfl) (HS.out _ (Below.drew HB2.out)) (fun hS => ?_)
    refine wpAnyH_take (i := 0) (v := ?_) rfl (by kernel_rfl) (by kernel_rfl) (by kernel_rfl) (fun _ _ _ h => h) (Or.inl ⟨by rfl, ?_⟩) (by assumption) ?_
    rotate_left
    · (intro w hSw; (try dsimp only at hSw); go_simp; try with_reducible rfl)
    simp only [Act.put, List.getElem_toArray, List.getElem_cons_zero, List.setIfInBounds_toArray, List.set_cons_zero, List.set_cons_succ]
    refine wpAnyH_take (i := 1) (v := ?_) rfl (by kernel_rfl) (by kernel_rfl) (by kernel_rfl) (fun _ _ _ h => h) (Or.inl ⟨by rfl, ?_⟩) (by assumption) ?_
    rotate_left
    · (intro w hSw; (try dsimp only at hSw); go_simp; try with_reducible rfl)
    simp only [Act.put, List.getElem_toArray, List.getElem_cons_zero, List.getElem_cons_succ, List.setIfInBounds_toArray, List.set_cons_zero, List.set_cons_succ]
    refine wpAnyH_take (i := 2) (v := ?_) rfl (by kernel_rfl) (by kernel_rfl) (by kernel_rfl) (fun _ _ _ h => h) (Or.inl ⟨by rfl, ?_⟩) (by assumption) ?_
    rotate_left
    · (intro w hSw; (try dsimp only at hSw); go_simp; try with_reducible rfl)
    simp only [Act.put, List.getElem_toArray, List.getElem_cons_zero, List.getElem_cons_succ, List.setIfInBounds_toArray, List.set_cons_zero, List.set_cons_succ]
    refine wpAnyH_take (i := 3) (v := ?_) rfl (by kernel_rfl) (by kernel_rfl) (by kernel_rfl) (fun _ _ _ h => h) (Or.inl ⟨by rfl, ?_⟩) (by assumption) ?_
    rotate_left
    · (intro w hSw; (try dsimp only at hSw); go_simp; try with_reducible rfl)
    simp only [Act.put, List.getElem_toArray, List.getElem_cons_zero, List.getElem_cons_succ, List.setIfInBounds_toArray, List.set_cons_zero, List.set_cons_succ]
    refine wpAnyH_take (i := 5) (v := ?_) rfl (by kernel_rfl) (by kernel_rfl) (by kernel_rfl) (fun _ _ _ h => h) (Or.inl ⟨by rfl, ?_⟩) (by assumption) ?_
    rotate_left
    · (intro w hSw; (try dsimp only at hSw); go_simp; try with_reducible rfl)
    simp only [Act.put, List.getElem_toArray, List.getElem_cons_zero, List.getElem_cons_succ, List.setIfInBounds_toArray, List.set_cons_zero, List.set_cons_succ]
    refine wpAnyH_take (i := 6) (v := ?_) rfl (by kernel_rfl) (by kernel_rfl) (by kernel_rfl) (fun _ _ _ h => h) (Or.inl ⟨by rfl, ?_⟩) (by assumption) ?_
    rotate_left
    · (intro w hSw; (try dsimp only at hSw); go_simp; try with_reducible rfl)
    simp only [Act.put, List.getElem_toArray, List.getElem_cons_zero, List.getElem_cons_succ, List.setIfInBounds_toArray, List.set_cons_zero, List.set_cons_succ]
    refine wpAnyH_take (i := 7) (v := ?_) rfl (by kernel_rfl) (by kernel_rfl) (by kernel_rfl) (fun _ _ _ h => h) (Or.inl ⟨by rfl, ?_⟩) (by assumption) ?_
    rotate_left
    · (intro w hSw; (try dsimp only at hSw); go_simp; try with_reducible rfl)
    simp only [Act.put, List.getElem_toArray, List.getElem_cons_zero, List.getElem_cons_succ, List.setIfInBounds_toArray, List.set_cons_zero, List.set_cons_succ]
    refine wpAnyH_take (i := 8) (v := ?_) rfl (by kernel_rfl) (by kernel_rfl) (by kernel_rfl) (fun _ _ _ h => h) (Or.inl ⟨by rfl, ?_⟩) (by assumption) ?_
    rotate_left
    · (intro w hSw; (try dsimp only at hSw); go_simp; try with_reducible rfl)
    simp only [Act.put, List.getElem_toArray, List.getElem_cons_zero, List.getElem_cons_succ, List.setIfInBounds_toArray, List.set_cons_zero, List.set_cons_succ]
    refine wpAnyH_ready (rs := [4, 9]) (by kernel_rfl) (by simp) ?_
    refine AllReadyH.cons rfl (fun K hK => ?_) (AllReadyH.cons rfl (fun K hK => ?_) AllReadyH.nil)
    · go_simp
      have hg3 := heap_alloc_new w2.drew (Obj.cells #[Value.slice lo ln lc] 27)
      have HB3 : Hid (Below W0.heap.size W0 (w2.drew.alloc (Obj.cells #[Value.slice lo ln lc] 27))) := (Below.drew HB2.out).alloc (Below.drew HB2.out).size _
      refine hK.out _ _ (HS.out _ HB3.out) (fun hHeld2 => ?_)
      clear hK K
      have HG3 : Hid _ := hg3
      clear hg3
      refine wpAnyH_ready (rs := [9]) (by kernel_rfl) (by simp) ?_
      refine AllReadyH.cons rfl (fun K hK => ?_) AllReadyH.nil
      go_simp
      refine (HA.out _ (HW.out _ HB3.out)).mono ?_
      rintro e w3 ⟨v, rfl, hd3, hb3⟩
      have HB4 : Hid (Below W0.heap.size W0 w3) := HB3.out.trans (hb3.mono HB3.out.size)
      have HG4 : Hid (w3.heap[w2.heap.size]? = some (.cells #[.slice lo ln lc] 27 (0, 0))) := (hb3.block _ (Array.getElem?_eq_some_iff.1 HG3.out).1).trans HG3.out
      have HD4 : Hid _ := hd3
      go_wp2_with fail
      refine hK.out _ _ (HS.out _ HB4.out) (fun hHeld3 => ?_)
      clear hK K hd3 hb3 hHeld2
      refine wpAnyH_ready (rs := [10]) (by kernel_rfl) (by simp) ?_
      refine AllReadyH.cons rfl (fun K hK => ?_) AllReadyH.nil
      go_simp
      refine (HO.out w3 w2.heap.size v _ (HW.out _ HB4.out) HG4.out HD4.out).mono ?_
      rintro e w5 ⟨ha, hb5⟩
      have HB5 : Hid (Below W0.heap.size W0 w5) := HB4.out.trans (hb5.mono HB4.out.size)
      have HAN : Hid _ := ha
      obtain ⟨ao, n, c, bo, m, d, rfl, -, -⟩ := ha
      go_wp2_with fail
      refine hK.out _ _ (HS.out _ HB5.out) (fun hHeld2 => ?_)
      clear hK K hb5
      refine wpAnyH_take (i := 11) (v := ?_) rfl (by kernel_rfl) (by kernel_rfl) (by kernel_rfl) (fun _ _ _ h => h) (Or.inl ⟨by rfl, ?_⟩) (by assumption) ?_
      rotate_left
      · (intro w hSw; (try dsimp only at hSw); go_simp; try with_reducible rfl)
      simp only [Act.put, List.getElem_toArray, List.getElem_cons_zero, List.getElem_cons_succ, List.setIfInBounds_toArray, List.set_cons_zero, List.set_cons_succ]
      refine wpAnyH_take (i := 12) (v := ?_) rfl (by kernel_rfl) (by kernel_rfl) (by kernel_rfl) (fun _ _ _ h => h) (Or.inl ⟨by rfl, ?_⟩) (by assumption) ?_
      rotate_left
      · (intro w hSw; (try dsimp only at hSw); go_simp; try with_reducible rfl)
      simp only [Act.put, List.getElem_toArray, List.getElem_cons_zero, List.getElem_cons_succ, List.setIfInBounds_toArray, List.set_cons_zero, List.set_cons_succ]
      refine wpAnyH_take (i := 13) (v := ?_) rfl (by kernel_rfl) (by kernel_rfl) (by kernel_rfl) (fun _ _ _ h => h) (Or.inl ⟨by rfl, ?_⟩) (by assumption) ?_
      rotate_left
      · (intro w hSw; (try dsimp only at hSw); go_simp; try with_reducible rfl)
      simp only [Act.put, List.getElem_toArray, List.getElem_cons_zero, List.getElem_cons_succ, List.setIfInBounds_toArray, List.set_cons_zero, List.set_cons_succ]
      refine wpAnyH_take (i := 14) (v := ?_) rfl (by kernel_rfl) (by kernel_rfl) (by kernel_rfl) (fun _ _ _ h => h) (Or.inl ⟨by rfl, ?_⟩) (by assumption) ?_
      rotate_left
      · (intro w hSw; (try dsimp only at hSw); go_simp; try with_reducible rfl)
      simp only [Act.put, List.getElem_toArray, List.getElem_cons_zero, List.getElem_cons_succ, List.setIfInBounds_toArray, List.set_cons_zero, List.set_cons_succ]
      refine wpAnyH_take (i := 15) (v := ?_) rfl (by kernel_rfl) (by kernel_rfl) (by kernel_rfl) (fun _ _ _ h => h) (Or.inl ⟨by rfl, ?_⟩) (by assumption) ?_
      rotate_left
      · (intro w hSw; (try dsimp only at hSw); go_simp; try with_reducible rfl)
      simp only [Act.put, List.getElem_toArray, List.getElem_cons_zero, List.getElem_cons_succ, List.setIfInBounds_toArray, List.set_cons_zero, List.set_cons_succ]
      refine wpAnyH_take (i := 16) (v := ?_) rfl (by kernel_rfl) (by kernel_rfl) (by kernel_rfl) (fun _ _ _ h => h) (Or.inl ⟨by rfl, ?_⟩) (by assumption) ?_
      rotate_left
      · (intro w hSw; (try dsimp only at hSw); go_simp; try with_reducible rfl)
      simp only [Act.put, List.getElem_toArray, List.getElem_cons_zero, List.getElem_cons_succ, List.setIfInBounds_toArray, List.set_cons_zero, List.set_cons_succ]
      refine wpAnyH_done (by kernel_rfl) ?_ _
      clear hS hHeld2
      go_wp2_with fail
      go_ret3
      rw [HR.out]
      exact ⟨HAN.out, HW.out _ HB5.out⟩
    · go_simp
      refine (HA.out _ (HW.out _ (Below.drew HB2.out))).mono ?_
      rintro e w3 ⟨v, rfl, hd3, hb3⟩
      have HB3 : Hid (Below W0.heap.size W0 w3) := (Below.drew HB2.out).trans (hb3.mono (Below.drew HB2.out).size)
      have HD3 : Hid _ := hd3
      go_wp2_with fail
      refine hK.out _ _ (HS.out _ HB3.out) (fun hHeld2 => ?_)
      clear hK K hd3 hb3
      refine wpAnyH_ready (rs := [4]) (by kernel_rfl) (by simp) ?_
      refine AllReadyH.cons rfl (fun K hK => ?_) AllReadyH.nil
      go_simp
      have hg3 := heap_alloc_new w3 (Obj.cells #[Value.slice lo ln lc] 27)
      have HB4 : Hid (Below W0.heap.size W0 (w3.alloc (Obj.cells #[Value.slice lo ln lc] 27))) := HB3.out.alloc HB3.out.size _
      have HD4 : Hid _ := DgO.below HD3.out (bel_alloc w3 (Obj.cells #[Value.slice lo ln lc] 27)) (Nat.le_refl _)
      have HG4 : Hid _ := hg3
      refine hK.out _ _ (HS.out _ HB4.out) (fun hHeld3 => ?_)
      clear hK K hg3 hHeld2
      refine wpAnyH_ready (rs := [10]) (by kernel_rfl) (by simp) ?_
      refine AllReadyH.cons rfl (fun K hK => ?_) AllReadyH.nil
      go_simp
      refine (HO.out _ w3.heap.size v _ (HW.out _ HB4.out) HG4.out HD4.out).mono ?_
      rintro e w5 ⟨ha, hb5⟩
      have HB5 : Hid (Below W0.heap.size W0 w5) := HB4.out.trans (hb5.mono HB4.out.size)
      have HAN : Hid _ := ha
      obtain ⟨ao, n, c, bo, m, d, rfl, -, -⟩ := ha
      go_wp2_with fail
      refine hK.out _ _ (HS.out _ HB5.out) (fun hHeld2 => ?_)
      clear hK K hb5
      refine wpAnyH_take (i := 11) (v := ?_) rfl (by kernel_rfl) (by kernel_rfl) (by kernel_rfl) (fun _ _ _ h => h) (Or.inl ⟨by rfl, ?_⟩) (by assumption) ?_
      rotate_left
      · (intro w hSw; (try dsimp only at hSw); go_simp; try with_reducible rfl)
      simp only [Act.put, List.getElem_toArray, List.getElem_cons_zero, List.getElem_cons_succ, List.setIfInBounds_toArray, List.set_cons_zero, List.set_cons_succ]
      refine wpAnyH_take (i := 12) (v := ?_) rfl (by kernel_rfl) (by kernel_rfl) (by kernel_rfl) (fun _ _ _ h => h) (Or.inl ⟨by rfl, ?_⟩) (by assumption) ?_
      rotate_left
      · (intro w hSw; (try dsimp only at hSw); go_simp; try with_reducible rfl)
      simp only [Act.put, List.getElem_toArray, List.getElem_cons_zero, List.getElem_cons_succ, List.setIfInBounds_toArray, List.set_cons_zero, List.set_cons_succ]
      refine wpAnyH_take (i := 13) (v := ?_) rfl (by kernel_rfl) (by kernel_rfl) (by kernel_rfl) (fun _ _ _ h => h) (Or.inl ⟨by rfl, ?_⟩) (by assumption) ?_
      rotate_left
      · (intro w hSw; (try dsimp only at hSw); go_simp; try with_reducible rfl)
      simp only [Act.put, List.getElem_toArray, List.getElem_cons_zero, List.getElem_cons_succ, List.setIfInBounds_toArray, List.set_cons_zero, List.set_cons_succ]
      refine wpAnyH_take (i := 14) (v := ?_) rfl (by kernel_rfl) (by kernel_rfl) (by kernel_rfl) (fun _ _ _ h => h) (Or.inl ⟨by rfl, ?_⟩) (by assumption) ?_
      rotate_left
      · (intro w hSw; (try dsimp only at hSw); go_simp; try with_reducible rfl)
      simp only [Act.put, List.getElem_toArray, List.getElem_cons_zero, List.getElem_cons_succ, List.setIfInBounds_toArray, List.set_cons_zero, List.set_cons_succ]
      refine wpAnyH_take (i := 15) (v := ?_) rfl (by kernel_rfl) (by kernel_rfl) (by kernel_rfl) (fun _ _ _ h => h) (Or.inl ⟨by rfl, ?_⟩) (by assumption) ?_
      rotate_left
      · (intro w hSw; (try dsimp only at hSw); go_simp; try with_reducible rfl)
      simp only [Act.put, List.getElem_toArray, List.getElem_cons_zero, List.getElem_cons_succ, List.setIfInBounds_toArray, List.set_cons_zero, List.set_cons_succ]
      refine wpAnyH_take (i := 16) (v := ?_) rfl (by kernel_rfl) (by kernel_rfl) (by kernel_rfl) (fun _ _ _ h => h) (Or.inl ⟨by rfl, ?_⟩) (by assumption) ?_
      rotate_left
      · (intro w hSw; (try dsimp only at hSw); go_simp; try with_reducible rfl)
      simp only [Act.put, List.getElem_toArray, List.getElem_cons_zero, List.getElem_cons_succ, List.setIfInBounds_toArray, List.set_cons_zero, List.set_cons_succ]
      refine wpAnyH_done (by kernel_rfl) ?_ _
      clear hS hHeld2
      go_wp2_with fail
      go_ret3
      rw [HR.out]
      exact ⟨HAN.out, HW.out _ HB5.out⟩
theorem one_leaf {w : World} {g : Nat} {p : LV} (hg : w.heap[g]? = some (.cells #[.slice p.ao p.n p.c] 27 (0, 0))) (hb : Bytes w p.ao p.n p.bs) (hn : p.n ≤ 140737488355000) (h0 : p.ao = none → p.c = 0) : LeavesV w (some ⟨g, 0, none⟩) 1 1 [p] := by
  refine ⟨rfl, Nat.le_refl _, by omega, fun _ => ⟨g, 0, rfl, fun i q hq => ?_⟩⟩
  cases i with
  | zero =>
    cases hq
    exact ⟨by rw [cell_of_row _ _ _ _ _ _ hg]; rfl, hb, hn, h0⟩
  | succ i => simp at hq
theorem ofOne_any (z : Int) (ro : Option Addr) (rn rc : Nat) (real : List LV) (x : Int) (p : LV) (po : Option Addr) (L pc : Nat) (ds : List (List UInt8)) (w : World) (hReal : LeavesV w ro rn rc real) (hr : rn ≤ 1000) (hb : Bytes w p.ao p.n p.bs) (hn : p.n ≤ 140737488355000) (h0 : p.ao = none → p.c = 0) (hP : PathV w po ds) (hl : ds.length = L) (hLc : L ≤ pc) (hpc : pc ≤ 9223372036854775807) (hK : WW w 1 ks) (hz0 : 1 < w.heap.size) (hz : -9223372036854775808 ≤ z ∧ z ≤ 9223372036854775807) :
    Calls Tryd.prog 33 #[.agg #[.int .i64 z], .slice ro rn rc, .int .i64 x, .slice p.ao p.n p.c, .slice po L pc] w fun e w' => AnsR (ofO z real x p ds) e w' ∧ Below w.heap.size w w' := by
  have hrl := hReal.1
  refine of_walk z ro rn rc x p.ao p.n p.c po L pc (rootD z (bytesL real)) (ckB z (rootD z (bytesL real)) rn x p.bs ds) (acrD rn x.toNat ds) _ w (fun W hW => ?_) (fun W hW => ?_) (fun h => ?_) (fun h W hW => ?_) (fun h W g v base hW hg hd => ?_)
  · exact root_any z hz rn ro rc real W (hReal.below hW (Nat.le_refl _)) hr (hK.below hW hz0) (Nat.lt_of_lt_of_le hz0 hW.size)
  · exact check_any z _ rn x p.ao p.n p.c p.bs po L pc ds W (rootD_length _ _) (by omega) hl hLc hpc (hP.below hW (Nat.le_refl _)) (bytes_kept hb hW (Nat.le_refl _)) h0 hn (hK.below hW hz0) (Nat.lt_of_lt_of_le hz0 hW.size) hz
  · exact ofO_no z real x p ds (by rw [hrl]; exact h)
  · unfold ckB at h
    rw [Bool.and_eq_true, decide_eq_true_eq, Int.toNat_natCast] at h
    obtain ⟨⟨h1, h2, h3⟩, -⟩ := h
    obtain ⟨i, rfl⟩ : ∃ m : Nat, x = (m : Int) := ⟨x.toNat, by omega⟩
    rw [Int.toNat_natCast] at h3 ⊢
    unfold upL at h3
    rw [List.length_reverse] at h3
    exact across_any rn i po L pc ds W (by omega) (by omega) hl (by omega) (hP.below hW (Nat.le_refl _))
  · have e : ofO z real x p ds = ofR z real [p] x (acrD rn x.toNat ds) := by unfold ofO; rw [hrl, if_pos h]
    rw [e]
    obtain ⟨ao, c, rfl, hc1, -, hPV⟩ := hd.path
    exact ofRange_any z ro rn rc real x (some ⟨g, 0, none⟩) 1 1 [p] ao _ c (acrD rn x.toNat ds) W (hReal.below hW (Nat.le_refl _)) hr (one_leaf hg (bytes_kept hb hW (Nat.le_refl _)) hn h0) (by omega) hPV rfl hc1 (hK.below hW hz0) (Nat.lt_of_lt_of_le hz0 hW.size) hz
/-- Are two texts a clash? -/
def oft (z : Int) (xs ys : List UInt8) : Bool := decide (xs ≠ ys) && (keptZ z xs == keptZ z ys)
end Go.Proofs.YtecacjddggljgaaDoor.Sm
