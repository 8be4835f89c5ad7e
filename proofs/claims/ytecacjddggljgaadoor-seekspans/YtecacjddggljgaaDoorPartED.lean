/-
  Rows of digests put together, and what marlstoneref05.Same answers: contracts over this translation. What clash's OfRange and OfLists answer: contracts over this translation.
-/
import Derived.Test.YtecacjddggljgaaDoorPartCD
import Derived.Test.YtecacjddggljgaaDoorPartCG
import Derived.Test.YtecacjddggljgaaDoorPartEC
import Derived.OwnWalk
namespace Go.Proofs.YtecacjddggljgaaDoor.Sm
open Go.RowKit
/-- 'append(own, own2...)' of any element. -/
theorem wpList_append_two {ops : Array Oper} {rest : List Oper} {o : Oper} {a : Act} {Q : Exit → Act → World → Prop} (w : World)
    (hg : o.guard = none) (s x : Operand) (t e : TypeId) (hop : o.op = Op.call { callee := Callee.builtin Builtin.append, args := #[s, x], argTypes := #[t, t] })
    (i : TypeInfo) (z : Value) (size bytes : Nat) (ht : Tryd.prog.underlying t = some (.slice e)) (hi : Tryd.prog.info? e = some i) (hz0 : i.zero = some z) (hz1 : i.size = size) (hz2 : i.bytes = bytes) (hzs : z.cells.size = size) (hsz : 0 < size)
    (base : Nat) (v : Value) (n : Nat) (xs : List Value) (hs : a.eval s = v) (hown : w.ownsRow base e size v n xs) (hbase : base ≤ w.heap.size)
    (base2 : Nat) (v2 : Value) (m : Nat) (ys : List Value) (hx : a.eval x = v2) (hown2 : w.ownsRow base2 e size v2 m ys) (h1 : ∀ u ∈ ys, u.oneCell' = true)
    (hb : n + m ≤ 1000000) (hb2 : bytes ≤ 1000)
    (hK : ∀ v' w', w'.ownsRow base e size v' (n + m) (xs ++ ys) → Below base w w' → (∀ k, k < w.heap.size → some k ≠ v.ownBlock → w'.heap[k]? = w.heap[k]?) → wpList Tryd.prog ops Q rest (a.put o.dst v') w') :
    wpList Tryd.prog ops Q (o :: rest) a w := by
  refine BigFrame.wpList_want (by simp [Region.wanted, hg]) fun _ hK2 => ?_
  rcases hown2.2 with ⟨h2, h3⟩ | ⟨g, cap, cur, h2, _⟩
  · subst h3
    have hys : ys = [] := List.eq_nil_of_length_eq_zero (by have := hown2.1; simpa using this)
    subst hys
    rw [h2] at hx
    have hrun := run_append_owned_none (P := Tryd.prog) (w := w) base t o.type e i size ht hi v n xs hown
    unfold Oper.wp
    simp [execOp, hop, resolve, invoke, builtin, hs, hx, hrun, Result.andThen]
    exact hK2 _ _ (hK v w (by rw [List.append_nil]; exact hown) (Below.refl _ _) (fun _ _ _ => rfl))
  · have hmul : (n + m) * bytes ≤ 1000000 * 1000 := Nat.mul_le_mul hb hb2
    rw [h2] at hx hown2
    refine wp_append_own w s x t hop base e i z size bytes ht hi hz0 hz1 hz2 hzs hsz v n xs hs hown ⟨g, 0, none⟩ m cap ys hx hown2.1 (hown2.cells (g := g) rfl) h1 (by unfold maxLen; omega) (by omega) hbase ?_
    intro v' w' a1 a2 _
    exact hK2 _ _ (hK v' w' a1 ((Below.refl _ _).grown a2 hbase (fun k hk => (hown.lt k hk).1)) a2.block)
/-- A row of digests of the call's own, none or empty where it has none. -/
def DgO (w : World) (base : Nat) (v : Value) (ds : List (List UInt8)) : Prop := w.ownsRow base 46 32 v ds.length (digC ds) ∧ ∀ d ∈ ds, d.length = 32
theorem DgO.below {w w' : World} {base B : Nat} {v : Value} {l : List (List UInt8)} (h : DgO w base v l) (hb : Below B w w') (hB : w.heap.size ≤ B) : DgO w' base v l := ⟨own_below h.1 hb hB, h.2⟩
theorem DgO.mono {w : World} {base b' : Nat} {v : Value} {l : List (List UInt8)} (h : DgO w base v l) (hb : b' ≤ base) : DgO w b' v l := ⟨ownsRow_mono h.1 hb, h.2⟩
theorem DgV.o {w : World} {base : Nat} {v : Value} {l : List (List UInt8)} (h : DgV w base v l) : DgO w base v l := ⟨h.1, h.2.2⟩
theorem DgO.path {w : World} {base : Nat} {v : Value} {ds : List (List UInt8)} (h : DgO w base v ds) : ∃ ao c, v = .slice ao ds.length c ∧ ds.length ≤ c ∧ c ≤ 9223372036854775807 ∧ PathV w ao ds := by
  obtain ⟨⟨hl, ⟨rfl, h0⟩ | ⟨g, cap, cur, rfl, hg, hh, hc, hm, hs, ht⟩⟩, hd⟩ := h
  · have : ds = [] := List.length_eq_zero_iff.1 h0
    subst this
    exact ⟨none, 0, rfl, Nat.le_refl _, by omega, ⟨hd, fun h => absurd h (by simp)⟩⟩
  · have h' : DgV w base (.slice (some ⟨g, 0, none⟩) ds.length cap) ds ∨ ds = [] := by
      by_cases he : ds = []
      · exact .inr he
      · exact .inl ⟨⟨hl, .inr ⟨g, cap, cur, rfl, hg, hh, hc, hm, hs, ht⟩⟩, fun h => absurd h he, hd⟩
    rcases h' with h' | h'
    · obtain ⟨ao, c, e, h1, h2, h3, -⟩ := h'.path
      exact ⟨ao, c, e, h1, h2, h3⟩
    · subst h'
      unfold maxLen at hm
      exact ⟨_, cap, rfl, hc, by omega, ⟨hd, fun h => absurd h (by simp)⟩⟩
theorem digC_one (ds : List (List UInt8)) : ∀ u ∈ digC ds, u.oneCell' = true := by
  intro u hu
  obtain ⟨d, -, hd⟩ := List.mem_flatMap.1 hu
  exact cellsOf_one d u hd
theorem dgo_one (w : World) (d : List UInt8) (hd : d.length = 32) : DgO (w.alloc (.cells (cellsOf d).toArray 46)) w.heap.size (.slice (some ⟨w.heap.size, 0, none⟩) 1 1) [d] :=
  ⟨⟨by rw [show digC [d] = cellsOf d by simp [digC], cellsOf_length, hd]; rfl, .inr ⟨w.heap.size, 1, _, rfl, Nat.le_refl _, heap_alloc_new w _, Nat.le_refl _, by unfold maxLen; omega, by rw [dig_size hd], by rw [show digC [d] = cellsOf d by simp [digC]]; exact List.take_of_length_le (by rw [cellsOf_length, hd]; simp)⟩⟩, fun e he => by rw [List.mem_singleton] at he; rw [he]; exact hd⟩
theorem wpList_append_dgo {ops : Array Oper} {rest : List Oper} {o : Oper} {a : Act} {Q : Exit → Act → World → Prop} (w : World)
    (hg : o.guard = none) (s x : Operand) (hop : o.op = Op.call { callee := Callee.builtin Builtin.append, args := #[s, x], argTypes := #[28, 28] })
    (base : Nat) (v : Value) (ds : List (List UInt8)) (hs : a.eval s = v) (hown : DgO w base v ds) (hbase : base ≤ w.heap.size)
    (base2 : Nat) (v2 : Value) (es : List (List UInt8)) (hx : a.eval x = v2) (hown2 : DgO w base2 v2 es) (hb : ds.length + es.length ≤ 1000)
    (hK : ∀ v' w', DgO w' base v' (ds ++ es) → Below base w w' → (∀ k, k < w.heap.size → some k ≠ v.ownBlock → w'.heap[k]? = w.heap[k]?) → wpList Tryd.prog ops Q rest (a.put o.dst v') w') :
    wpList Tryd.prog ops Q (o :: rest) a w := by
  obtain ⟨i0, hi, hz0, hz1, hz2⟩ := info_parts info24
  refine wpList_append_two w hg s x 28 46 hop i0 _ 32 32 Tryd.underlying28 hi hz0 hz1 hz2 (by simp [Value.cells]) (by decide) base v ds.length (digC ds) hs hown.1 hbase base2 v2 es.length (digC es) hx hown2.1 (digC_one es) (by omega) (by decide) ?_
  intro v' w' h1 h2 h3
  refine hK v' w' ⟨by rw [digC_app, List.length_append]; exact h1, fun d hd => ?_⟩ h2 h3
  rcases List.mem_append.1 hd with h | h
  · exact hown.2 d h
  · exact hown2.2 d h
theorem wpList_build_dig {ops : Array Oper} {rest : List Oper} {o : Oper} {a : Act} {Q : Exit → Act → World → Prop} (w : World)
    (hg : o.guard = none) (x : Operand) (hop : o.op = Op.buildSlice 28 1 #[(0, x)]) (d : List UInt8) (hx : a.eval x = dv d) (hd : d.length = 32)
    (hK : wpList Tryd.prog ops Q rest (a.put o.dst (.slice (some ⟨w.heap.size, 0, none⟩) 1 1)) (w.alloc (.cells (cellsOf d).toArray 46))) :
    wpList Tryd.prog ops Q (o :: rest) a w := by
  refine BigFrame.wpList_want (by simp [Region.wanted, hg]) fun K hK2 => ?_
  have h := step_build_dig (ops := ops) (o := o) (a := a) (K := K) (Q := Q) (E := True) w hg x hop d hx hd (hK2 _ _ hK)
  rwa [if_pos (by simp [Region.wanted, hg])] at h
end Go.Proofs.YtecacjddggljgaaDoor.Sm
namespace Go.Proofs.YtecacjddggljgaaDoor.Sm
open Go.RowKit
theorem AnsR.at {o : Option (List UInt8 × List UInt8)} {e : Ending} {w w' : World} {B : Nat} (h : AnsR o e w) (hb : Below B w w') (hB : w.heap.size ≤ B) : AnsR o e w' := by
  obtain ⟨ao, n, c, bo, m, d, he, h1, h2⟩ := h
  exact ⟨ao, n, c, bo, m, d, he, h1.below hb hB, h2.below hb hB⟩
set_option maxHeartbeats 4000000 in
set_option maxRecDepth 100000 in
theorem ofRange_walk (z : Int) (ro : Option Addr) (rn rc : Nat) (x : Int) (qo : Option Addr) (qn qc : Nat) (po : Option Addr) (L pc : Nat) (rt : List UInt8) (b : Bool) (o : Option (List UInt8 × List UInt8)) (w : World)
    (hRO : ∀ W, Below w.heap.size w W → Calls Tryd.prog 63 #[.agg #[.int .i64 z], .slice ro rn rc] W fun e w' => e = .returned (dv rt) ∧ Below W.heap.size W w')
    (hCR : ∀ W, Below w.heap.size w W → Calls Tryd.prog 54 #[.agg #[.int .i64 z], dv rt, .int .i64 (rn : Int), .int .i64 x, .slice qo qn qc, .slice po L pc] W fun e w' => e = .returned (.bool b) ∧ Below W.heap.size W w')
    (hno : b = false → o = none)
    (hPO : b = true → ∀ f W, w.heap.size ≤ f → Below w.heap.size w W → W.heap[f]? = some (.cells (opC z ro rn rc x qo qn qc po L pc) 110 (0, 0)) → Calls Tryd.prog 69 #[.pointer (some ⟨f, 0, none⟩), .int .i64 0, .int .i64 (rn : Int)] W fun e w' => ∃ (p : Option Addr) (T : PT 64), e = .returned (.pointer p) ∧ PairV w' W.heap.size T p ∧ unl T = o ∧ Chg f W w') :
    Calls Tryd.prog 35 #[.agg #[.int .i64 z], .slice ro rn rc, .int .i64 x, .slice qo qn qc, .slice po L pc] w fun e w' => AnsR o e w' ∧ Below w.heap.size w w' := by
  have HRO : Hid (∀ W, Below w.heap.size w W → Calls Tryd.prog 63 #[.agg #[.int .i64 z], .slice ro rn rc] W fun e w' => e = .returned (.agg (cellsOf rt).toArray) ∧ Below W.heap.size W w') := hRO
  have HCR : Hid (∀ W, Below w.heap.size w W → Calls Tryd.prog 54 #[.agg #[.int .i64 z], .agg (cellsOf rt).toArray, .int .i64 (rn : Int), .int .i64 x, .slice qo qn qc, .slice po L pc] W fun e w' => e = .returned (.bool b) ∧ Below W.heap.size W w') := hCR
  have HNO : Hid _ := hno
  have HPO : Hid _ := hPO
  obtain ⟨R, HR⟩ : ∃ R : Ending → World → Prop, Hid (R = fun e w' => AnsR o e w' ∧ Below w.heap.size w w') := ⟨_, rfl⟩
  rw [← HR.out]
  clear hRO hCR hno hPO
  go_enter Tryd.func35, Tryd.ntmps35
  go_upto_region 1 with fail
  have HF := heap_alloc_new w (Obj.cells #[Value.int IntKind.i64 z] 26)
  have HBA := bel_alloc w (Obj.cells #[Value.int IntKind.i64 z] 26)
  obtain ⟨W0, HW0⟩ : ∃ W, Hid (w.alloc (Obj.cells #[Value.int IntKind.i64 z] 26) = W) := ⟨_, rfl⟩
  rw [HW0.out] at HF HBA ⊢
  have HBA : Hid (Below w.heap.size w W0) := HBA
  have HS : Hid (∀ W, Below W0.heap.size W0 W → W.cell? ⟨w.heap.size, 0, none⟩ = some (.int .i64 z)) := fun W hW => bel_cell2 hW (Nat.le_refl _) (by rw [cell_of_row W0 _ 0 _ _ _ HF]; rfl)
  have HW : Hid (∀ W, Below W0.heap.size W0 W → Below w.heap.size w W) := fun W hW => HBA.out.trans (hW.mono HBA.out.size)
  clear HF HW0
  refine wp_region_held_drew (S := fun W => W.cell? ⟨w.heap.size, 0, none⟩ = some (.int .i64 z)) (by kernel_rfl) (HS.out _ (Below.drew (Below.refl _ _))) (fun hS => ?_)
  refine wpAnyH_take (i := 0) (v := ?_) rfl (by kernel_rfl) (by kernel_rfl) (by kernel_rfl) (fun _ _ _ h => h) (Or.inl ⟨by rfl, ?_⟩) (by assumption) ?_
  rotate_left
  · (intro w hSw; (try dsimp only at hSw); go_simp; try with_reducible rfl)
  simp only [Act.put, List.getElem_toArray, List.getElem_cons_zero, List.setIfInBounds_toArray, List.set_cons_zero, List.set_cons_succ]
  refine wpAnyH_take (i := 1) (v := ?_) rfl (by kernel_rfl) (by kernel_rfl) (by kernel_rfl) (fun _ _ _ h => h) (Or.inl ⟨by rfl, ?_⟩) (by assumption) ?_
  rotate_left
  · (intro w hSw; (try dsimp only at hSw); go_simp; try with_reducible rfl)
  simp only [Act.put, List.getElem_toArray, List.getElem_cons_zero, List.getElem_cons_succ, List.setIfInBounds_toArray, List.set_cons_zero, List.set_cons_succ]
  refine wpAnyH_take (i := 2) (v := ?_) rfl (by kernel_rfl) (by kernel_rfl) (by kernel_rfl) (fun _ _ _ h => h) (Or.inl ⟨by rfl, ?_⟩) (by assumption) ?_
  rotate_left
  · (intro w hSw; (try dsimp only at hSw); go_simp; try with_reducible rfl)
  simp only [Act.put, List.getElem_toArray, List.getElem_cons_zero, List.getElem_cons_succ, List.setIfInBounds_toArray, List.set_cons_zero, List.set_cons_succ]
  refine wpAnyH_take (i := 4) (v := ?_) rfl (by kernel_rfl) (by kernel_rfl) (by kernel_rfl) (fun _ _ _ h => h) (Or.inl ⟨by rfl, ?_⟩) (by assumption) ?_
  rotate_left
  · (intro w hSw; (try dsimp only at hSw); go_simp; try with_reducible rfl)
  simp only [Act.put, List.getElem_toArray, List.getElem_cons_zero, List.getElem_cons_succ, List.setIfInBounds_toArray, List.set_cons_zero, List.set_cons_succ]
  refine wpAnyH_take (i := 5) (v := ?_) rfl (by kernel_rfl) (by kernel_rfl) (by kernel_rfl) (fun _ _ _ h => h) (Or.inl ⟨by rfl, ?_⟩) (by assumption) ?_
  rotate_left
  · (intro w hSw; (try dsimp only at hSw); go_simp; try with_reducible rfl)
  simp only [Act.put, List.getElem_toArray, List.getElem_cons_zero, List.getElem_cons_succ, List.setIfInBounds_toArray, List.set_cons_zero, List.set_cons_succ]
  refine wpAnyH_take (i := 6) (v := ?_) rfl (by kernel_rfl) (by kernel_rfl) (by kernel_rfl) (fun _ _ _ h => h) (Or.inl ⟨by rfl, ?_⟩) (by assumption) ?_
  rotate_left
  · (intro w hSw; (try dsimp only at hSw); go_simp; try with_reducible rfl)
  simp only [Act.put, List.getElem_toArray, List.getElem_cons_zero, List.getElem_cons_succ, List.setIfInBounds_toArray, List.set_cons_zero, List.set_cons_succ]
  refine wpAnyH_take (i := 7) (v := ?_) rfl (by kernel_rfl) (by kernel_rfl) (by kernel_rfl) (fun _ _ _ h => h) (Or.inl ⟨by rfl, ?_⟩) (by assumption) ?_
  rotate_left
  · (intro w hSw; (try dsimp only at hSw); go_simp; try with_reducible rfl)
  simp only [Act.put, List.getElem_toArray, List.getElem_cons_zero, List.getElem_cons_succ, List.setIfInBounds_toArray, List.set_cons_zero, List.set_cons_succ]
  refine wpAnyH_take (i := 8) (v := ?_) rfl (by kernel_rfl) (by kernel_rfl) (by kernel_rfl) (fun _ _ _ h => h) (Or.inl ⟨by rfl, ?_⟩) (by assumption) ?_
  rotate_left
  · (intro w hSw; (try dsimp only at hSw); go_simp; try with_reducible rfl)
  simp only [Act.put, List.getElem_toArray, List.getElem_cons_zero, List.getElem_cons_succ, List.setIfInBounds_toArray, List.set_cons_zero, List.set_cons_succ]
  refine wpAnyH_ready (rs := [3]) (by kernel_rfl) (by simp) ?_
  refine AllReadyH.cons rfl (fun K hK => ?_) AllReadyH.nil
  go_simp
  refine (HRO.out _ (HW.out _ (Below.drew (Below.refl _ _)))).mono ?_
  rintro e w1 ⟨rfl, hb1⟩
  have HB1 : Hid (Below W0.heap.size W0 w1) := (Below.drew (Below.refl _ _)).trans hb1
  go_wp2_with fail
  refine hK.out _ _ (HS.out _ HB1.out) (fun hHeld2 => ?_)
  clear hK K hb1
  refine wpAnyH_ready (rs := [9]) (by kernel_rfl) (by simp) ?_
  refine AllReadyH.cons rfl (fun K hK => ?_) AllReadyH.nil
  go_simp
  refine (HCR.out _ (HW.out _ HB1.out)).mono ?_
  rintro e w2 ⟨rfl, hb2⟩
  have HB2 : Hid (Below W0.heap.size W0 w2) := HB1.out.trans (hb2.mono HB1.out.size)
  go_wp2_with fail
  refine hK.out _ _ (HS.out _ HB2.out) (fun hHeld2 => ?_)
  clear hK K hb2
  refine wpAnyH_take (i := 10) (v := ?_) rfl (by kernel_rfl) (by kernel_rfl) (by kernel_rfl) (fun _ _ _ h => h) (Or.inl ⟨by rfl, ?_⟩) (by assumption) ?_
  rotate_left
  · (intro w hSw; (try dsimp only at hSw); go_simp; try with_reducible rfl)
  simp only [Act.put, List.getElem_toArray, List.getElem_cons_zero, List.getElem_cons_succ, List.setIfInBounds_toArray, List.set_cons_zero, List.set_cons_succ]
  refine wpAnyH_done (by kernel_rfl) ?_ _
  clear hS hHeld2
  cases b with
  | false =>
    go_wp2_with fail
    go_ret3
    rw [HR.out, HNO.out (by first | rfl | trivial)]
    exact ⟨ansr_none _, HW.out _ HB2.out⟩
  | true =>
    have hc2 := HS.out _ HB2.out
    go_upto_region 4 with fail
    have hn2 : (w2.alloc (Obj.cells #[.int .i64 z, .slice ro rn rc, .int .i64 x, .slice qo qn qc, .slice po L pc] 110)).heap[w2.heap.size]? = some (.cells (opC z ro rn rc x qo qn qc po L pc) 110 (0, 0)) := heap_alloc_new w2 _
    have hb2 := bel_alloc w2 (Obj.cells #[.int .i64 z, .slice ro rn rc, .int .i64 x, .slice qo qn qc, .slice po L pc] 110)
    obtain ⟨W3, HW3⟩ : ∃ W, Hid (w2.alloc (Obj.cells #[.int .i64 z, .slice ro rn rc, .int .i64 x, .slice qo qn qc, .slice po L pc] 110) = W) := ⟨_, rfl⟩
    rw [HW3.out] at hn2 hb2 ⊢
    have HB3 : Hid (Below w.heap.size w W3) := HW.out _ (HB2.out.trans (hb2.mono HB2.out.size))
    have HZ : Hid (w.heap.size ≤ w2.heap.size) := (HW.out _ HB2.out).size
    have HP := HPO.out rfl w2.heap.size W3 HZ.out HB3.out hn2
    have HP : Hid _ := HP
    clear hn2 hb2 HW3 hc2
    go_wp2_with fail
    refine Calls.mono HP.out ?_
    rintro e w4 ⟨p, T, rfl, hpv, hun, hc4⟩
    have HB4 : Hid (Below w.heap.size w w4) := HB3.out.trans (hc4.below HZ.out HB3.out.size)
    have HFA : Hid (Calls Tryd.prog 68 #[.pointer p] w4 fun e w' => AnsR (unl T) e w' ∧ Below w4.heap.size w4 w') := first_any _ T p w4 hpv
    rw [hun] at HFA
    clear hpv hun hc4
    go_wp2_with fail
    refine Calls.mono HFA.out ?_
    rintro e w5 ⟨ha, hb5⟩
    have HB5 : Hid (Below w.heap.size w w5) := HB4.out.trans (hb5.mono HB4.out.size)
    have HAN : Hid _ := ha
    obtain ⟨ao, n, c, bo, m, d, rfl, -, -⟩ := ha
    clear hb5
    go_wp2_with fail
    go_ret3
    rw [HR.out]
    exact ⟨HAN.out, HB5.out⟩
theorem ofRange_any (z : Int) (ro : Option Addr) (rn rc : Nat) (real : List LV) (x : Int) (qo : Option Addr) (qn qc : Nat) (part : List LV) (po : Option Addr) (L pc : Nat) (ds : List (List UInt8)) (w : World) (hReal : LeavesV w ro rn rc real) (hr : rn ≤ 1000) (hPart : LeavesV w qo qn qc part) (hq : qn ≤ 1000) (hP : PathV w po ds) (hl : ds.length = L) (hLc : L ≤ pc) (hK : WW w 1 ks) (hz0 : 1 < w.heap.size) (hz : -9223372036854775808 ≤ z ∧ z ≤ 9223372036854775807) :
    Calls Tryd.prog 35 #[.agg #[.int .i64 z], .slice ro rn rc, .int .i64 x, .slice qo qn qc, .slice po L pc] w fun e w' => AnsR (ofR z real part x ds) e w' ∧ Below w.heap.size w w' := by
  have hrl := hReal.1
  have hql := hPart.1
  refine ofRange_walk z ro rn rc x qo qn qc po L pc (rootD z (bytesL real)) (crB z (rootD z (bytesL real)) rn x part ds) _ w (fun W hW => ?_) (fun W hW => ?_) (fun h => ?_) (fun h f W hf hW hfr => ?_)
  · exact root_any z hz rn ro rc real W (hReal.below hW (Nat.le_refl _)) hr (hK.below hW hz0) (Nat.lt_of_lt_of_le hz0 hW.size)
  · exact crange_any z _ rn x qo qn qc part po L pc ds W (rootD_length _ _) (by omega) hl hLc (hP.below hW (Nat.le_refl _)) (hPart.below hW (Nat.le_refl _)) hq (hK.below hW hz0) (Nat.lt_of_lt_of_le hz0 hW.size) hz
  · exact ofR_no z real part x ds (by rw [hrl]; exact h)
  · have hc := h
    unfold crB at h
    rw [Bool.and_eq_true, decide_eq_true_eq, Int.toNat_natCast] at h
    obtain ⟨⟨h0, h1, h2, h3⟩, -⟩ := h
    obtain ⟨i, rfl⟩ : ∃ m : Nat, x = (m : Int) := ⟨x.toNat, by omega⟩
    rw [Int.toNat_natCast, hql] at h3
    obtain ⟨rb, rf, rfl, -⟩ := hReal.2.2.2 (by omega)
    obtain ⟨qb, qf, rfl, -⟩ := hPart.2.2.2 (by omega)
    rw [← hl] at hfr
    have hp := pow63
    refine (pair_any z i (i + qn) (by omega) real part rb rf rn rc qb qf qn qc f w hReal hPart rfl (by omega) hr hK hz0 hz hf (by omega) 63 0 rn ds po pc W (by omega) (by omega) (Nat.le_refl _) hW hfr hP (by omega) (by omega)).mono ?_
    rintro e w' ⟨p, rfl, h4, -, h5⟩
    refine ⟨p, _, rfl, h4, ?_, h5⟩
    unfold ofR
    rw [hrl, hql, if_pos hc, Int.toNat_natCast]
end Go.Proofs.YtecacjddggljgaaDoor.Sm
