/-
  Rows of digests put together, and what marlstoneref05.Same answers: contracts over this translation.
-/
import Derived.Test.YtaebpnednhkfhaaDoorRefR
namespace Go.Proofs.YtaebpnednhkfhaaDoor
open Go.RowKit
/-- 'append(own, own2...)' of any element. -/
theorem wpList_append_two {ops : Array Oper} {rest : List Oper} {o : Oper} {a : Act} {Q : Exit → Act → World → Prop} (w : World)
    (hg : o.guard = none) (s x : Operand) (t e : TypeId) (hop : o.op = Op.call { callee := Callee.builtin Builtin.append, args := #[s, x], argTypes := #[t, t] })
    (i : TypeInfo) (z : Value) (size bytes : Nat) (ht : Tryd.prog.underlying t = some (.slice e)) (hi : Tryd.prog.info? e = some i) (hz0 : i.zero = some z) (hz1 : i.size = size) (hz2 : i.bytes = bytes) (hzs : z.cells.size = size) (hsz : 0 < size)
    (base : Nat) (v : Value) (n : Nat) (xs : List Value) (hs : a.eval s = v) (hown : w.ownsRow base e size v n xs) (hbase : base ≤ w.heap.size)
    (base2 : Nat) (v2 : Value) (m : Nat) (ys : List Value) (hx : a.eval x = v2) (hown2 : w.ownsRow base2 e size v2 m ys) (h1 : ∀ u ∈ ys, u.oneCell' = true)
    (hb : n + m ≤ 1000000) (hb2 : bytes ≤ 1000)
    (hK : ∀ v' w', w'.ownsRow base e size v' (n + m) (xs ++ ys) → Below base w w' → (∀ k, k < w.heap.size → some k ≠ v.ownBlock → w'.heap[k]? = w.heap[k]?) → wpList Tryd.prog ops Q rest (a.put o.dst v') w') :
    wpList Tryd.prog ops Q (o :: rest) a w := by
  refine BigFrame.wpList_want (by simp [Region.wanted, hg]) fun _ hK2 => ?_
  rcases hown2.2 with ⟨h2, h3⟩ | ⟨g, cap, cur, h2, _⟩
  · subst h3
    have hys : ys = [] := List.eq_nil_of_length_eq_zero (by have := hown2.1; simpa using this)
    subst hys
    rw [h2] at hx
    have hrun := run_append_owned_none (P := Tryd.prog) (w := w) base t o.type e i size ht hi v n xs hown
    unfold Oper.wp
    simp [execOp, hop, resolve, invoke, builtin, hs, hx, hrun, Result.andThen]
    exact hK2 _ _ (hK v w (by rw [List.append_nil]; exact hown) (Below.refl _ _) (fun _ _ _ => rfl))
  · have hmul : (n + m) * bytes ≤ 1000000 * 1000 := Nat.mul_le_mul hb hb2
    rw [h2] at hx hown2
    refine wp_append_own w s x t hop base e i z size bytes ht hi hz0 hz1 hz2 hzs hsz v n xs hs hown ⟨g, 0, none⟩ m cap ys hx hown2.1 (hown2.cells (g := g) rfl) h1 (by unfold maxLen; omega) (by omega) hbase ?_
    intro v' w' a1 a2 _
    exact hK2 _ _ (hK v' w' a1 ((Below.refl _ _).grown a2 hbase (fun k hk => (hown.lt k hk).1)) a2.block)
/-- A row of digests of the call's own, none or empty where it has none. -/
def DgO (w : World) (base : Nat) (v : Value) (ds : List (List UInt8)) : Prop := w.ownsRow base 24 32 v ds.length (digC ds) ∧ ∀ d ∈ ds, d.length = 32
theorem DgO.below {w w' : World} {base B : Nat} {v : Value} {l : List (List UInt8)} (h : DgO w base v l) (hb : Below B w w') (hB : w.heap.size ≤ B) : DgO w' base v l := ⟨own_below h.1 hb hB, h.2⟩
theorem DgO.mono {w : World} {base b' : Nat} {v : Value} {l : List (List UInt8)} (h : DgO w base v l) (hb : b' ≤ base) : DgO w b' v l := ⟨ownsRow_mono h.1 hb, h.2⟩
theorem DgV.o {w : World} {base : Nat} {v : Value} {l : List (List UInt8)} (h : DgV w base v l) : DgO w base v l := ⟨h.1, h.2.2⟩
theorem DgO.path {w : World} {base : Nat} {v : Value} {ds : List (List UInt8)} (h : DgO w base v ds) : ∃ ao c, v = .slice ao ds.length c ∧ ds.length ≤ c ∧ c ≤ 9223372036854775807 ∧ PathV w ao ds := by
  obtain ⟨⟨hl, ⟨rfl, h0⟩ | ⟨g, cap, cur, rfl, hg, hh, hc, hm, hs, ht⟩⟩, hd⟩ := h
  · have : ds = [] := List.length_eq_zero_iff.1 h0
    subst this
    exact ⟨none, 0, rfl, Nat.le_refl _, by omega, ⟨hd, fun h => absurd h (by simp)⟩⟩
  · have h' : DgV w base (.slice (some ⟨g, 0, none⟩) ds.length cap) ds ∨ ds = [] := by
      by_cases he : ds = []
      · exact .inr he
      · exact .inl ⟨⟨hl, .inr ⟨g, cap, cur, rfl, hg, hh, hc, hm, hs, ht⟩⟩, fun h => absurd h he, hd⟩
    rcases h' with h' | h'
    · obtain ⟨ao, c, e, h1, h2, h3, -⟩ := h'.path
      exact ⟨ao, c, e, h1, h2, h3⟩
    · subst h'
      unfold maxLen at hm
      exact ⟨_, cap, rfl, hc, by omega, ⟨hd, fun h => absurd h (by simp)⟩⟩
theorem digC_one (ds : List (List UInt8)) : ∀ u ∈ digC ds, u.oneCell' = true := by
  intro u hu
  obtain ⟨d, -, hd⟩ := List.mem_flatMap.1 hu
  exact cellsOf_one d u hd
theorem dgo_one (w : World) (d : List UInt8) (hd : d.length = 32) : DgO (w.alloc (.cells (cellsOf d).toArray 24)) w.heap.size (.slice (some ⟨w.heap.size, 0, none⟩) 1 1) [d] :=
  ⟨⟨by rw [show digC [d] = cellsOf d by simp [digC], cellsOf_length, hd]; rfl, .inr ⟨w.heap.size, 1, _, rfl, Nat.le_refl _, heap_alloc_new w _, Nat.le_refl _, by unfold maxLen; omega, by rw [dig_size hd], by rw [show digC [d] = cellsOf d by simp [digC]]; exact List.take_of_length_le (by rw [cellsOf_length, hd]; simp)⟩⟩, fun e he => by rw [List.mem_singleton] at he; rw [he]; exact hd⟩
theorem wpList_append_dgo {ops : Array Oper} {rest : List Oper} {o : Oper} {a : Act} {Q : Exit → Act → World → Prop} (w : World)
    (hg : o.guard = none) (s x : Operand) (hop : o.op = Op.call { callee := Callee.builtin Builtin.append, args := #[s, x], argTypes := #[40, 40] })
    (base : Nat) (v : Value) (ds : List (List UInt8)) (hs : a.eval s = v) (hown : DgO w base v ds) (hbase : base ≤ w.heap.size)
    (base2 : Nat) (v2 : Value) (es : List (List UInt8)) (hx : a.eval x = v2) (hown2 : DgO w base2 v2 es) (hb : ds.length + es.length ≤ 1000)
    (hK : ∀ v' w', DgO w' base v' (ds ++ es) → Below base w w' → (∀ k, k < w.heap.size → some k ≠ v.ownBlock → w'.heap[k]? = w.heap[k]?) → wpList Tryd.prog ops Q rest (a.put o.dst v') w') :
    wpList Tryd.prog ops Q (o :: rest) a w := by
  obtain ⟨i0, hi, hz0, hz1, hz2⟩ := info_parts info24
  refine wpList_append_two w hg s x 40 24 hop i0 _ 32 32 Tryd.underlying40 hi hz0 hz1 hz2 (by simp [Value.cells]) (by decide) base v ds.length (digC ds) hs hown.1 hbase base2 v2 es.length (digC es) hx hown2.1 (digC_one es) (by omega) (by decide) ?_
  intro v' w' h1 h2 h3
  refine hK v' w' ⟨by rw [digC_app, List.length_append]; exact h1, fun d hd => ?_⟩ h2 h3
  rcases List.mem_append.1 hd with h | h
  · exact hown.2 d h
  · exact hown2.2 d h
theorem wpList_build_dig {ops : Array Oper} {rest : List Oper} {o : Oper} {a : Act} {Q : Exit → Act → World → Prop} (w : World)
    (hg : o.guard = none) (x : Operand) (hop : o.op = Op.buildSlice 40 1 #[(0, x)]) (d : List UInt8) (hx : a.eval x = dv d) (hd : d.length = 32)
    (hK : wpList Tryd.prog ops Q rest (a.put o.dst (.slice (some ⟨w.heap.size, 0, none⟩) 1 1)) (w.alloc (.cells (cellsOf d).toArray 24))) :
    wpList Tryd.prog ops Q (o :: rest) a w := by
  refine BigFrame.wpList_want (by simp [Region.wanted, hg]) fun K hK2 => ?_
  have h := step_build_dig (ops := ops) (o := o) (a := a) (K := K) (Q := Q) (E := True) w hg x hop d hx hd (hK2 _ _ hK)
  rwa [if_pos (by simp [Region.wanted, hg])] at h
set_option maxRecDepth 100000 in
set_option maxHeartbeats 4000000 in
theorem same_any (ao1 : Option Addr) (c1 : Nat) (ds1 : List (List UInt8)) (ao2 : Option Addr) (c2 : Nat) (ds2 : List (List UInt8)) (w : World) (h1 : PathV w ao1 ds1) (h2 : PathV w ao2 ds2) (hl : ds1.length ≤ 9223372036854775806) :
    Calls Tryd.prog 37 #[.slice ao1 ds1.length c1, .slice ao2 ds2.length c2] w fun e w' => e = .returned (.bool (ds1 == ds2)) ∧ Below w.heap.size w w' := by
  have H1 : Hid (PathV w ao1 ds1) := h1
  have H2 : Hid (PathV w ao2 ds2) := h2
  obtain ⟨L, HL⟩ : ∃ L : Nat, Hid (ds1.length = L) := ⟨_, rfl⟩
  obtain ⟨M, HM⟩ : ∃ L : Nat, Hid (ds2.length = L) := ⟨_, rfl⟩
  rw [HL.out] at hl
  simp only [HL.out, HM.out]
  obtain ⟨q, HQ⟩ : ∃ q, Hid ((ds1 == ds2) = q) := ⟨_, rfl⟩
  rw [HQ.out]
  clear h1 h2
  by_cases hne : L = M
  case neg =>
    have hq : q = false := by
      rw [← HQ.out]
      refine beq_eq_false_iff_ne.2 (fun h => hne ?_)
      rw [← HL.out, ← HM.out, h]
    subst hq
    have hnz : ((L : Int) == (M : Int)) = false := by simp; omega
    clear hl
    go_enter Tryd.func37, Tryd.ntmps37
    go_wp2_with fail
    go_ret
    exact ⟨rfl, Below.refl _ _⟩
  case pos =>
    subst hne
    go_enter Tryd.func37, Tryd.ntmps37
    go_wp2_with fail
    go_loopw [5] (fun s5 wr => ∃ (k : Nat), s5 = .int .i64 k ∧ k ≤ L ∧ Hid (ds1.take k = ds2.take k) ∧ Hid (Below w.heap.size w wr)) (fun x _ => L - (intOf x).toNat)
    case atStart => exact ⟨0, rfl, Nat.zero_le _, rfl, Below.refl _ _⟩
    case round =>
      obtain ⟨k, rfl, hk, HT, HBE⟩ := hrel
      by_cases hlt : k < L
      case neg =>
        have hkz : ¬ (k : Int) < (L : Int) := by omega
        have hq : q = true := by
          rw [← HQ.out]
          have h := HT.out
          rw [List.take_of_length_le (by have := HL.out; omega), List.take_of_length_le (by have := HM.out; omega)] at h
          rw [h, beq_self_eq_true]
        subst hq
        clear hk hlt
        go_wp2_with fail
        go_ret
        exact ⟨rfl, HBE.out⟩
      case pos =>
        have hkz : (k : Int) < (L : Int) := by omega
        obtain ⟨b1, o1, rfl, hp1⟩ := H1.out.2 (by have := HL.out; omega)
        obtain ⟨b2, o2, rfl, hp2⟩ := H2.out.2 (by have := HM.out; omega)
        obtain ⟨d1, HD1⟩ : ∃ d, Hid (ds1[k]? = some d) := ⟨_, List.getElem?_eq_getElem (by have := HL.out; omega)⟩
        obtain ⟨d2, HD2⟩ : ∃ d, Hid (ds2[k]? = some d) := ⟨_, List.getElem?_eq_getElem (by have := HM.out; omega)⟩
        have HL1 : Hid (d1.length = 32) := H1.out.1 d1 (List.mem_of_getElem? HD1.out)
        have HL2 : Hid (d2.length = 32) := H2.out.1 d2 (List.mem_of_getElem? HD2.out)
        have HI1 : Hid ((Tryd.prog.info? 24).map (·.size) = some (cellsOf d1).length) := by show _ = _; rw [size24, cellsOf_length, HL1.out]
        have HI2 : Hid ((Tryd.prog.info? 24).map (·.size) = some (cellsOf d2).length) := by show _ = _; rw [size24, cellsOf_length, HL2.out]
        have HS : Hid (∀ W, Below w.heap.size w W → W.rangeAt b1 (o1 + k * 32) (cellsOf d1) ∧ W.rangeAt b2 (o2 + k * 32) (cellsOf d2)) := fun W hW => ⟨range_bel (hp1 k d1 HD1.out) hW (Nat.le_refl _), range_bel (hp2 k d2 HD2.out) hW (Nat.le_refl _)⟩
        have heq := equalIn_dig d1 d2 HL1.out HL2.out
        obtain ⟨r, HR⟩ : ∃ r, Hid ((d1 == d2) = r) := ⟨_, rfl⟩
        rw [HR.out] at heq
        have hg := guard24
        clear hp1 hp2 hk
        go_upto_region 6 with fail
        refine wp_region_held_drew (S := fun W => W.rangeAt b1 (o1 + k * 32) (cellsOf d1) ∧ W.rangeAt b2 (o2 + k * 32) (cellsOf d2)) (by kernel_rfl) (HS.out _ (Below.drew HBE.out)) (fun hS => ?_)
        refine wpAnyH_take (i := 0) (v := ?_) rfl (by kernel_rfl) (by kernel_rfl) (by kernel_rfl) (fun _ _ _ h => h) (Or.inl ⟨by rfl, ?_⟩) (by assumption) ?_
        rotate_left
        · (intro w hSw; (try dsimp only at hSw); go_simp; try with_reducible rfl)
        simp only [Act.put, List.getElem_toArray, List.getElem_cons_zero, List.setIfInBounds_toArray, List.set_cons_zero, List.set_cons_succ]
        refine wpAnyH_take (i := 1) (v := ?_) rfl (by kernel_rfl) (by kernel_rfl) (by kernel_rfl) (fun _ _ _ h => h) (Or.inl ⟨by rfl, ?_⟩) (by assumption) ?_
        rotate_left
        · (intro w hSw; (try dsimp only at hSw); go_simp; try with_reducible rfl)
        simp only [Act.put, List.getElem_toArray, List.getElem_cons_zero, List.getElem_cons_succ, List.setIfInBounds_toArray, List.set_cons_zero, List.set_cons_succ]
        refine wpAnyH_take (i := 2) (v := ?_) rfl (by kernel_rfl) (by kernel_rfl) (by kernel_rfl) (fun _ _ _ h => h) (Or.inl ⟨by rfl, ?_⟩) (by assumption) ?_
        rotate_left
        · (intro w hSw; (try dsimp only at hSw); go_simp; try with_reducible rfl)
        simp only [Act.put, List.getElem_toArray, List.getElem_cons_zero, List.getElem_cons_succ, List.setIfInBounds_toArray, List.set_cons_zero, List.set_cons_succ]
        refine wpAnyH_take (i := 3) (v := .agg (cellsOf d1).toArray) rfl (by kernel_rfl) (by kernel_rfl) (by kernel_rfl) (fun _ _ _ h => h) (yieldsIf_load_mid (by rfl) 24 (.tmp 19) rfl b1 (o1 + k * 32) rfl (cellsOf d1) _ (fun _ h => h.1) Tryd.underlying24 rfl HI1.out) (by assumption) ?_
        simp only [Act.put, List.getElem_toArray, List.getElem_cons_zero, List.getElem_cons_succ, List.setIfInBounds_toArray, List.set_cons_zero, List.set_cons_succ]
        refine wpAnyH_take (i := 4) (v := ?_) rfl (by kernel_rfl) (by kernel_rfl) (by kernel_rfl) (fun _ _ _ h => h) (Or.inl ⟨by rfl, ?_⟩) (by assumption) ?_
        rotate_left
        · (intro w hSw; (try dsimp only at hSw); go_simp; try with_reducible rfl)
        simp only [Act.put, List.getElem_toArray, List.getElem_cons_zero, List.getElem_cons_succ, List.setIfInBounds_toArray, List.set_cons_zero, List.set_cons_succ]
        refine wpAnyH_take (i := 5) (v := ?_) rfl (by kernel_rfl) (by kernel_rfl) (by kernel_rfl) (fun _ _ _ h => h) (Or.inl ⟨by rfl, ?_⟩) (by assumption) ?_
        rotate_left
        · (intro w hSw; (try dsimp only at hSw); go_simp; try with_reducible rfl)
        simp only [Act.put, List.getElem_toArray, List.getElem_cons_zero, List.getElem_cons_succ, List.setIfInBounds_toArray, List.set_cons_zero, List.set_cons_succ]
        refine wpAnyH_take (i := 6) (v := ?_) rfl (by kernel_rfl) (by kernel_rfl) (by kernel_rfl) (fun _ _ _ h => h) (Or.inl ⟨by rfl, ?_⟩) (by assumption) ?_
        rotate_left
        · (intro w hSw; (try dsimp only at hSw); go_simp; try with_reducible rfl)
        simp only [Act.put, List.getElem_toArray, List.getElem_cons_zero, List.getElem_cons_succ, List.setIfInBounds_toArray, List.set_cons_zero, List.set_cons_succ]
        refine wpAnyH_take (i := 7) (v := .agg (cellsOf d2).toArray) rfl (by kernel_rfl) (by kernel_rfl) (by kernel_rfl) (fun _ _ _ h => h) (yieldsIf_load_mid (by rfl) 24 (.tmp 23) rfl b2 (o2 + k * 32) rfl (cellsOf d2) _ (fun _ h => h.2) Tryd.underlying24 rfl HI2.out) (by assumption) ?_
        simp only [Act.put, List.getElem_toArray, List.getElem_cons_zero, List.getElem_cons_succ, List.setIfInBounds_toArray, List.set_cons_zero, List.set_cons_succ]
        refine wpAnyH_take (i := 8) (v := ?_) rfl (by kernel_rfl) (by kernel_rfl) (by kernel_rfl) (fun _ _ _ h => h) (Or.inl ⟨by rfl, ?_⟩) (by assumption) ?_
        rotate_left
        · (intro w hSw; (try dsimp only at hSw); go_simp; try with_reducible rfl)
        simp only [Act.put, List.getElem_toArray, List.getElem_cons_zero, List.getElem_cons_succ, List.setIfInBounds_toArray, List.set_cons_zero, List.set_cons_succ]
        refine wpAnyH_done (by kernel_rfl) ?_ _
        clear hS heq hg
        have HBD : Hid (Below w.heap.size w wr.drew) := Below.drew HBE.out
        cases r with
        | false =>
          have hq : q = false := by
            rw [← HQ.out]
            refine beq_eq_false_iff_ne.2 (fun h => ?_)
            have h1 := HD1.out
            rw [h, HD2.out] at h1
            have h2 := HR.out
            rw [Option.some.inj h1, beq_self_eq_true] at h2
            cases h2
          subst hq
          go_wp2_with fail
          go_ret
          exact ⟨rfl, HBD.out⟩
        | true =>
          have HT2 : Hid (ds1.take (k + 1) = ds2.take (k + 1)) := by
            show _ = _
            rw [List.take_add_one, List.take_add_one, HD1.out, HD2.out, HT.out, eq_of_beq HR.out]
          go_wp2_with fail
          refine ⟨⟨k + 1, by first | rfl | (rw [wrap64_small _ (by omega) (by omega)]; rfl), by omega, HT2, HBD⟩, ?_⟩
          first | (rw [wrap64_small _ (by omega) (by omega)]; simp [intOf]; omega) | (simp [intOf]; omega)
end Go.Proofs.YtaebpnednhkfhaaDoor
