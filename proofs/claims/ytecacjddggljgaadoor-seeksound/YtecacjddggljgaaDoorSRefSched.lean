/-
  What the document's answer marlstoneref02.schedule answers: a contract over this translation.
-/
import Derived.Test.YtecacjddggljgaaDoorSRefPad
import Derived.Deep.RegionHeld3
namespace Go.Proofs.YtecacjddggljgaaDoor.Sm
open Go.RowKit
theorem info139 : (Tryd.prog.info? 196).map (fun i => (i.zero, i.size, i.bytes)) = some (some (.int .u32 0), 1, 4) := by kernel_rfl
theorem wcells_ones (l : List UInt32) : ∀ v ∈ wcells l, v.oneCell' = true := fun v hv => by simp only [wcells, List.mem_map] at hv; obtain ⟨x, _, rfl⟩ := hv; rfl
theorem wcells_append (a b : List UInt32) : wcells (a ++ b) = wcells a ++ wcells b := by simp [wcells]
/-- A row of words that is the call's own, written out. -/
theorem word_shape {w : World} {base : Nat} {v : Value} {n : Nat} {xs : List Value} (h : w.ownsRow base 196 1 v n xs) (hn : 0 < n) :
    ∃ g c, v = .slice (some ⟨g, 0, none⟩) n c ∧ base ≤ g ∧ g < w.heap.size ∧ n ≤ c ∧ c ≤ 9223372036854775807 := by
  rcases h.2 with ⟨rfl, h0⟩ | ⟨g, cap, cur, rfl, hb, hg, hn, hm, hs, ht⟩
  · omega
  · exact ⟨g, cap, rfl, hb, (Array.getElem?_eq_some_iff.1 hg).1, hn, by unfold maxLen at hm; omega⟩
theorem word_cell {w : World} {base g n c : Nat} {l : List UInt32} (h : w.ownsRow base 196 1 (.slice (some ⟨g, 0, none⟩) n c) n (wcells l)) (i : Nat) (hi : i < n) : w.cell? ⟨g, i, none⟩ = some (.int .u32 (l.getD i 0).toNat) := by
  have hl : i < l.length := by have := h.1; rw [wcells_length] at this; omega
  rw [h.cellAt i (by omega)]
  simp [wcells, List.getD, hl]
theorem word_empty (w : World) : (w.alloc (.cells #[] 196)).ownsRow w.heap.size 196 1 (.slice (some ⟨w.heap.size, 0, none⟩) 0 0) 0 (wcells []) :=
  World.ownsRow_made w #[] 0 (Nat.le_refl _) (by unfold maxLen; omega) rfl
theorem word_one (w : World) (x : UInt32) (v : Value) (h : v = .int .u32 (x.toNat : Int)) : ∀ j u, (wcells [x])[j]? = some u → (w.alloc (.cells #[v] 196)).cell? (Addr.add ⟨w.heap.size, 0, none⟩ j) = some u := by
  subst h
  intro j u hu
  rw [Addr.add_lit, Nat.zero_add, cell_of_row _ _ j _ 196 (0, 0) (heap_alloc_new _ _)]
  simpa [wcells] using hu
theorem wpList_append_word {ops : Array Oper} {rest : List Oper} {o : Oper} {a : Act} {Q : Exit → Act → World → Prop} (w : World)
    (hg : o.guard = none) (s x : Operand) (hop : o.op = Op.call { callee := Callee.builtin Builtin.append, args := #[s, x], argTypes := #[213, 213] })
    (base : Nat) (v : Value) (l : List UInt32) (hs : a.eval s = v) (hown : w.ownsRow base 196 1 v l.length (wcells l)) (hbase : base ≤ w.heap.size)
    (ad : Addr) (m c : Nat) (news : List UInt32) (hx : a.eval x = .slice (some ad) m c) (hn : news.length = m) (hm : 0 < m) (hc : ∀ j u, (wcells news)[j]? = some u → w.cell? (ad.add j) = some u) (hb : l.length + m ≤ 1000)
    (hK : ∀ g cp w', w'.ownsRow base 196 1 (.slice (some ⟨g, 0, none⟩) (l.length + m) cp) (l.length + m) (wcells (l ++ news)) → base ≤ g → l.length + m ≤ cp → cp ≤ 9223372036854775807 → Below base w w' → wpList Tryd.prog ops Q rest (a.put o.dst (.slice (some ⟨g, 0, none⟩) (l.length + m) cp)) w') :
    wpList Tryd.prog ops Q (o :: rest) a w := by
  obtain ⟨i0, hi, hz0, hz1, hz2⟩ := info_parts info139
  refine wpList_append_own w hg s x 213 hop base 196 i0 (.int .u32 0) 1 4 Tryd.underlying213 hi hz0 hz1 hz2 rfl (by decide) v l.length (wcells l) hs hown ad m c (wcells news) hx (by rw [wcells_length]; omega) hc (wcells_ones news) (by unfold maxLen; omega) (by omega) hbase ?_
  intro v' w' h1 h2 _
  obtain ⟨g, cp, rfl, k1, k2, k3, k4⟩ := word_shape h1 (by omega)
  exact hK g cp w' (by rw [wcells_append]; exact h1) k1 k3 k4 ((Below.refl _ _).grown h2 hbase (fun k hk => (hown.lt k hk).1))
theorem step_append_word {ops : Array Oper} {o : Oper} {a : Act} {K : Act → World → Prop} {Q : Exit → Act → World → Prop} {E : Prop} (w : World)
    (hg : o.guard = none) (s x : Operand) (hop : o.op = Op.call { callee := Callee.builtin Builtin.append, args := #[s, x], argTypes := #[213, 213] })
    (base : Nat) (v : Value) (l : List UInt32) (hs : a.eval s = v) (hown : w.ownsRow base 196 1 v l.length (wcells l)) (hbase : base ≤ w.heap.size)
    (ad : Addr) (m c : Nat) (news : List UInt32) (hx : a.eval x = .slice (some ad) m c) (hn : news.length = m) (hm : 0 < m) (hc : ∀ j u, (wcells news)[j]? = some u → w.cell? (ad.add j) = some u) (hb : l.length + m ≤ 1000)
    (hK : ∀ g cp w', w'.ownsRow base 196 1 (.slice (some ⟨g, 0, none⟩) (l.length + m) cp) (l.length + m) (wcells (l ++ news)) → base ≤ g → l.length + m ≤ cp → cp ≤ 9223372036854775807 → Below base w w' → K (a.put o.dst (.slice (some ⟨g, 0, none⟩) (l.length + m) cp)) w') :
    if Region.wanted o (yielded ops a.tmps) = true then Oper.wp Tryd.prog o a w K Q else E := by
  have hw : Region.wanted o (yielded ops a.tmps) = true := by simp [Region.wanted, hg]
  rw [if_pos hw]
  obtain ⟨i0, hi, hz0, hz1, hz2⟩ := info_parts info139
  refine wp_append_own w s x 213 hop base 196 i0 (.int .u32 0) 1 4 Tryd.underlying213 hi hz0 hz1 hz2 rfl (by decide) v l.length (wcells l) hs hown ad m c (wcells news) hx (by rw [wcells_length]; omega) hc (wcells_ones news) (by unfold maxLen; omega) (by omega) hbase ?_
  intro v' w' h1 h2 _
  obtain ⟨g, cp, rfl, k1, k2, k3, k4⟩ := word_shape h1 (by omega)
  exact hK g cp w' (by rw [wcells_append]; exact h1) k1 k3 k4 ((Below.refl _ _).grown h2 hbase (fun k hk => (hown.lt k hk).1))
def beX (bl : List UInt8) (t : Nat) : Nat → Nat
  | 0 => 0
  | k + 1 => beX bl t k * 256 + (bl.getD (4 * t + k) 0).toNat
theorem beX_lt (bl : List UInt8) (t : Nat) : ∀ k, beX bl t k < 256 ^ k
  | 0 => by simp [beX]
  | k + 1 => by
    have := beX_lt bl t k
    have := (bl.getD (4 * t + k) 0).toNat_lt
    rw [beX, Nat.pow_succ]; omega
theorem be4_num (bl : List UInt8) (t : Nat) : (be4 bl t).toNat = beX bl t 4 := by
  have h0 := (bl.getD (4 * t) 0).toNat_lt; have h1 := (bl.getD (4 * t + 1) 0).toNat_lt; have h2 := (bl.getD (4 * t + 2) 0).toNat_lt; have h3 := (bl.getD (4 * t + 3) 0).toNat_lt
  unfold be4
  have s24 : ((bl.getD (4 * t) 0).toUInt32 <<< 24).toNat = (bl.getD (4 * t) 0).toNat <<< 24 := by
    rw [UInt32.toNat_shiftLeft, UInt8.toNat_toUInt32]; show _ <<< 24 % 2 ^ 32 = _; rw [Nat.shiftLeft_eq]; omega
  have s16 : ((bl.getD (4 * t + 1) 0).toUInt32 <<< 16).toNat = (bl.getD (4 * t + 1) 0).toNat <<< 16 := by
    rw [UInt32.toNat_shiftLeft, UInt8.toNat_toUInt32]; show _ <<< 16 % 2 ^ 32 = _; rw [Nat.shiftLeft_eq]; omega
  have s8 : ((bl.getD (4 * t + 2) 0).toUInt32 <<< 8).toNat = (bl.getD (4 * t + 2) 0).toNat <<< 8 := by
    rw [UInt32.toNat_shiftLeft, UInt8.toNat_toUInt32]; show _ <<< 8 % 2 ^ 32 = _; rw [Nat.shiftLeft_eq]; omega
  rw [UInt32.toNat_or, UInt32.toNat_or, UInt32.toNat_or, s24, s16, s8, UInt8.toNat_toUInt32, Nat.or_assoc, Nat.or_assoc, ← Nat.shiftLeft_add_eq_or_of_lt (show _ < 2 ^ 8 by omega), ← Nat.shiftLeft_add_eq_or_of_lt (show _ < 2 ^ 16 by rw [Nat.shiftLeft_eq]; omega), ← Nat.shiftLeft_add_eq_or_of_lt (show _ < 2 ^ 24 by simp only [Nat.shiftLeft_eq]; omega)]
  simp only [beX, Nat.shiftLeft_eq, Nat.add_zero]
  omega
theorem run_append_kept (w : World) (base : Nat) (ty : TypeId) (g n cap : Nat) (l : List UInt32) (hln : l.length = n) (hown : w.ownsRow base 196 1 (.slice (some ⟨g, 0, none⟩) n cap) n (wcells l)) (ad : Addr) (x : UInt32) (hc : ∀ j u, (wcells [x])[j]? = some u → w.cell? (ad.add j) = some u) (k : Nat) (hb : n + 1 ≤ 1000) (hbase : base ≤ w.heap.size) :
    ∃ g' cp w', (Builtin.append_ #[213, 213] ty #[.slice (some ⟨g, 0, none⟩) n cap, .slice (some ad) 1 k]).run Tryd.prog w = .ok (.slice (some ⟨g', 0, none⟩) (n + 1) cp) w' ∧ w'.ownsRow base 196 1 (.slice (some ⟨g', 0, none⟩) (n + 1) cp) (n + 1) (wcells (l ++ [x])) ∧ base ≤ g' ∧ n + 1 ≤ cp ∧ cp ≤ 9223372036854775807 ∧ Below base w w' ∧ ∀ i, i < n → w'.cell? ⟨g, i, none⟩ = w.cell? ⟨g, i, none⟩ := by
  obtain ⟨i, hi, hz0, hz1, hz2⟩ := info_parts info139
  rcases hown.2 with ⟨h, _⟩ | ⟨g1, cap1, cur, hv, hbg, hg, hnc, hcm, hcs, htake⟩
  · simp at h
  · simp only [Value.slice.injEq, Option.some.injEq, Addr.mk.injEq, and_true, true_and] at hv
    obtain ⟨rfl, rfl⟩ := hv
    have hx1 : ∀ u ∈ wcells [x], u.oneCell' = true := wcells_ones [x]
    by_cases hroom : n + 1 ≤ cap
    · have hr := run_append_room (P := Tryd.prog) w 213 ty 196 i Tryd.underlying213 hi g n cap cur hg ad 1 k (wcells [x]) (by simp [wcells, hz1]) hc hx1 hroom (by rw [hz1]; simp [wcells]; omega)
      rw [hz1] at hr
      refine ⟨g, cap, _, hr, ⟨by simp [wcells, hln], .inr ⟨g, cap, _, rfl, hbg, setRow_heap w g cur _ 196 _ hg, hroom, hcm, ?_, ?_⟩⟩, hbg, hroom, by unfold maxLen at hcm; omega, below_setRow (Below.refl _ _) hbg _, fun j hj => ?_⟩
      · simp only [List.size_toArray, List.length_append, List.length_take, List.length_drop, Array.length_toList, wcells_length, List.length_singleton]; omega
      · have e : (n + 1) * 1 = (cur.toList.take (n * 1) ++ wcells [x]).length := by simp [wcells]; omega
        rw [e, wcells_append, ← htake]
        exact List.take_left
      · rw [cell_of_row _ g j _ 196 (0, 0) (setRow_heap w g cur _ 196 _ hg), cell_of_row _ g j _ 196 (0, 0) hg]
        rw [List.getElem?_toArray, List.append_assoc, List.getElem?_append_left (by simp; omega), List.getElem?_take, if_pos (by omega)]
        simp
    · have holds : ∀ j u, (wcells l)[j]? = some u → w.cell? ((⟨g, 0, none⟩ : Addr).add j) = some u := hown.cells (g := g) rfl
      have hr := run_append_grow (P := Tryd.prog) w 213 ty 196 i (.int .u32 0) Tryd.underlying213 hi hz0 ⟨g, 0, none⟩ n cap (wcells l) (by rw [wcells_length, hz1]; omega) holds ad 1 k (wcells [x]) (by simp [wcells, hz1]) hc (by omega) (by omega) (growslice_fits (by omega) (by rw [hz2]; omega))
      have hge := grownCap_ge w (n + 1) cap 196
      have hcm2 : grownCap w (n + 1) cap 196 ≤ maxLen := grownCap_le_maxLen w (n + 1) cap 196 (by unfold maxLen; omega)
      refine ⟨_, _, _, hr, ⟨by simp [wcells, hln], .inr ⟨w.heap.size, _, _, rfl, hbase, heap_alloc_new w.drew _, hge, hcm2, ?_, ?_⟩⟩, hbase, hge, by unfold maxLen at hcm2; omega, (Below.drew (Below.refl _ _)).alloc (by simpa using hbase) _, fun j hj => ?_⟩
      · simp only [Array.size_append, List.size_toArray, size_zeroCells, wcells_length, hln]
        simp [Value.cells]
        omega
      · simp only [Array.toList_append, List.append_assoc, wcells_append]
        have e : (n + 1) * 1 = (wcells l ++ wcells [x]).length := by simp [wcells, hln]
        rw [e, ← List.append_assoc]
        exact List.take_left
      · exact World.cell?_of_block (heap_alloc_old w.drew _ (Array.getElem?_eq_some_iff.1 hg).1)
theorem step_append_kept {ops : Array Oper} {o : Oper} {a : Act} {K : Act → World → Prop} {Q : Exit → Act → World → Prop} {E : Prop} (w : World)
    (hgd : o.guard = none) (s x : Operand) (hop : o.op = Op.call { callee := Callee.builtin Builtin.append, args := #[s, x], argTypes := #[213, 213] })
    (base g n cap : Nat) (l : List UInt32) (hln : l.length = n) (hs : a.eval s = .slice (some ⟨g, 0, none⟩) n cap) (hown : w.ownsRow base 196 1 (.slice (some ⟨g, 0, none⟩) n cap) n (wcells l)) (hbase : base ≤ w.heap.size)
    (ad : Addr) (k : Nat) (y : UInt32) (hx : a.eval x = .slice (some ad) 1 k) (hc : ∀ j u, (wcells [y])[j]? = some u → w.cell? (ad.add j) = some u) (hb : n + 1 ≤ 1000)
    (hK : ∀ g' cp w', w'.ownsRow base 196 1 (.slice (some ⟨g', 0, none⟩) (n + 1) cp) (n + 1) (wcells (l ++ [y])) → base ≤ g' → n + 1 ≤ cp → cp ≤ 9223372036854775807 → Below base w w' → (∀ i, i < n → w'.cell? ⟨g, i, none⟩ = w.cell? ⟨g, i, none⟩) → K (a.put o.dst (.slice (some ⟨g', 0, none⟩) (n + 1) cp)) w') :
    if Region.wanted o (yielded ops a.tmps) = true then Oper.wp Tryd.prog o a w K Q else E := by
  have hw : Region.wanted o (yielded ops a.tmps) = true := by simp [Region.wanted, hgd]
  rw [if_pos hw]
  obtain ⟨g', cp, w', hr, h1, h2, h3, h4, h5, h6⟩ := run_append_kept w base o.type g n cap l hln hown ad y hc k hb hbase
  unfold Oper.wp execOp
  simp only [hop, resolve, invoke, builtin, Sem.run_bind, Sem.run_pure, Result.andThen_ok, List.map_toArray, List.map_cons, List.map_nil, hs, hx, hr]
  exact hK g' cp w' h1 h2 h3 h4 h5 h6
set_option maxRecDepth 100000 in
set_option maxHeartbeats 1000000 in
theorem sched_any (pb off pc : Nat) (bl : List UInt8) (w : World) (hb : Bytes w (some ⟨pb, off, none⟩) 64 bl) (hpb : pb < w.heap.size) :
    Calls Tryd.prog 147 #[.slice (some ⟨pb, off, none⟩) 64 pc] w fun e w' => ∃ g c, e = .returned (.slice (some ⟨g, 0, none⟩) 64 c) ∧ w.heap.size ≤ g ∧ g < w'.heap.size ∧ WW w' g (sched bl 64) ∧ Below w.heap.size w w' := by
  have hbl := hb.1
  have HB : Hid (∀ w', Below w.heap.size w w' → ∀ i, i < 64 → w'.cell? ⟨pb, off + i, none⟩ = some (.int .u8 (bl.getD i 0).toNat)) := fun w' hw i hi => by
    obtain ⟨x, hx⟩ : ∃ x, bl[i]? = some x := ⟨bl[i]'(by omega), by simp⟩
    obtain ⟨y, hy, hc⟩ := hb.2 i x hx
    cases hy
    rw [hw.cell (p := ⟨pb, off + i, none⟩) hpb, ← Addr.add_lit, hc]
    simp [List.getD, hx]
  clear hb
  go_enter Tryd.func147, Tryd.ntmps147
  go_wp2_with fail
  have hbw0 : Below w.heap.size w (w.alloc (.cells #[] 196)) := bel_alloc _ _
  have HW0 : Hid ((w.alloc (.cells #[] 196)).ownsRow w.heap.size 196 1 (.slice (some ⟨w.heap.size, 0, none⟩) 0 0) 0 (wcells [])) := word_empty w
  refine wp_gen (fun w1 => Below w.heap.size w w1 ∧ w1.ownsRow w.heap.size 196 1 (.slice (some ⟨w.heap.size, 0, none⟩) 0 0) 0 (wcells [])) ⟨hbw0, HW0.out⟩ ?_
  rintro w1 ⟨hbw1, hO1⟩
  clear hbw0 HW0
  generalize hq : w.heap.size = q at *
  go_loopw [3, 4] (fun a i wr => ∃ (t g c : Nat), t ≤ 16 ∧ i = .int .i64 t ∧ a = .slice (some ⟨g, 0, none⟩) t c ∧ wr.ownsRow q 196 1 (.slice (some ⟨g, 0, none⟩) t c) t (wcells (sched bl t)) ∧ t ≤ c ∧ c ≤ 9223372036854775807 ∧ Below q w wr) (fun _ i _ => (16 - intOf i).toNat)
  case atStart => exact ⟨0, _, _, by omega, rfl, rfl, hO1, by omega, by omega, hbw1⟩
  case round =>
    clear hO1 hbw1
    obtain ⟨t, g, c, ht, rfl, rfl, hown, hc1, hc2, hbr⟩ := hrel
    have hsr : q ≤ wr.heap.size := by have := hbr.size; omega
    have hlen := sched_length bl t
    have HOWN : Hid (wr.ownsRow q 196 1 (.slice (some ⟨g, 0, none⟩) t c) (sched bl t).length (wcells (sched bl t))) := by show World.ownsRow _ _ _ _ _ _ _; rw [hlen]; exact hown
    have hgl := (hown.lt g rfl)
    clear hown
    by_cases ht16 : t < 16
    · have ht16' : (t : Int) < 16 := by omega
      go_wp2_with fail
      go_loop [5, 6] (fun x i => ∃ k : Nat, k ≤ 4 ∧ i = .int .i64 k ∧ x = .int .u32 (beX bl t k)) (fun _ i => (4 - intOf i).toNat)
      case atStart => exact ⟨0, by omega, rfl, rfl⟩
      case round =>
        obtain ⟨k, hk, rfl, rfl⟩ := hrel
        by_cases hk4 : k < 4
        · have hcell := HB.out wr hbr (4 * t + k) (by omega)
          have hX : beX bl t k < 16777216 := by
            have h1 := beX_lt bl t k
            have h2 : 256 ^ k ≤ 256 ^ 3 := Nat.pow_le_pow_right (by omega) (by omega)
            omega
          have HNX : Hid (beX bl t (k + 1) = beX bl t k * 256 + (bl.getD (4 * t + k) 0).toNat) := rfl
          generalize bl.getD (4 * t + k) 0 = x at *
          have hxl := x.toNat_lt
          generalize beX bl t k = X at *
          have e1 : 4 * (t : Int) + (k : Int) < 64 := by omega
          have e2 : (0 : Int) ≤ 4 * (t : Int) + (k : Int) := by omega
          have hk4' : (k : Int) < 4 := by omega
          go_wp2
          go_round
          case rel => exact ⟨k + 1, by omega, by go_num, by rw [HNX.out]; go_num⟩
          case measure => simp [intOf]; omega
        · obtain rfl : k = 4 := by omega
          rw [← be4_num]
          have HNX : Hid (sched bl (t + 1) = sched bl t ++ [be4 bl t]) := by show _ = _; rw [sched, nextW, if_pos ht16]
          generalize be4 bl t = x at *
          have HW1 := word_one wr x _ rfl
          have HWW : Hid (∀ j u, (wcells [x])[j]? = some u → (wr.alloc (.cells #[.int .u32 (x.toNat : Int)] 196)).cell? (Addr.add ⟨wr.heap.size, 0, none⟩ j) = some u) := HW1
          clear HW1
          have HOA : Hid ((wr.alloc (.cells #[.int .u32 (x.toNat : Int)] 196)).ownsRow q 196 1 (.slice (some ⟨g, 0, none⟩) t c) (sched bl t).length (wcells (sched bl t))) := HOWN.out.alloc _
          go_wp2_with (at_builtin; refine wpList_append_word _ rfl (.tmp 32) (.tmp 34) rfl q _ (sched bl t) rfl HOA.out (by simp; omega) ⟨wr.heap.size, 0, none⟩ 1 1 [x] rfl rfl (by omega) HWW.out (by rw [hlen]; omega) ?_)
          intro g3 c3 w3 hown3 hg3 hc3 hcc3 hbel3
          rw [← HNX.out] at hown3
          have hbw3 : Below q w w3 := (hbr.alloc hsr _).trans hbel3
          have HO3 : Hid (w3.ownsRow q 196 1 (.slice (some ⟨g3, 0, none⟩) (t + 1) c3) (t + 1) (wcells (sched bl (t + 1)))) := hown3
          clear hown3 HOA HWW HOWN hbel3
          go_wp2
          go_roundw
          case rel => exact ⟨t + 1, g3, c3, by omega, by go_num, rfl, HO3.out, hc3, hcc3, hbw3⟩
          case measure => simp [intOf]; omega
    · obtain rfl : t = 16 := by omega
      go_wp2_with fail
      rw [show ((16 : Nat) : Int) = 16 from rfl]
      go_loopw [3, 7] (fun a i wq => ∃ (t g c : Nat), 16 ≤ t ∧ t ≤ 64 ∧ i = .int .i64 t ∧ a = .slice (some ⟨g, 0, none⟩) t c ∧ wq.ownsRow q 196 1 (.slice (some ⟨g, 0, none⟩) t c) t (wcells (sched bl t)) ∧ t ≤ c ∧ c ≤ 9223372036854775807 ∧ Below q w wq) (fun _ i _ => (64 - intOf i).toNat)
      case atStart => exact ⟨16, _, _, by omega, by omega, rfl, rfl, by have := HOWN.out; rw [hlen] at this; exact this, hc1, hc2, hbr⟩
      case round =>
        clear HOWN hc1 hc2 hbr hsr hgl hlen
        obtain ⟨t, g, c, ht16, ht, rfl, rfl, hown, hc1, hc2, hbr⟩ := hrel
        have hsr : q ≤ wr.heap.size := by have := hbr.size; omega
        have hlen := sched_length bl t
        have hglt := (hown.lt g rfl).2
        by_cases ht64 : t < 64
        · have h15 := word_cell hown (t - 15) (by omega)
          have h2 := word_cell hown (t - 2) (by omega)
          have h7 := word_cell hown (t - 7) (by omega)
          have h16 := word_cell hown (t - 16) (by omega)
          have HNX : Hid (sched bl (t + 1) = sched bl t ++ [nextW bl (sched bl t) t]) := rfl
          obtain ⟨nw, hnw⟩ : ∃ nw, nw = nextW bl (sched bl t) t := ⟨_, rfl⟩
          rw [← hnw] at HNX
          rw [nextW, if_neg (by omega)] at hnw
          have HOWN : Hid (wr.ownsRow q 196 1 (.slice (some ⟨g, 0, none⟩) t c) (sched bl t).length (wcells (sched bl t))) := by show World.ownsRow _ _ _ _ _ _ _; rw [hlen]; exact hown
          generalize (sched bl t).getD (t - 15) 0 = x15 at *
          generalize (sched bl t).getD (t - 2) 0 = x2 at *
          generalize (sched bl t).getD (t - 7) 0 = x7 at *
          generalize (sched bl t).getD (t - 16) 0 = x16 at *
          have l15 := x15.toNat_lt
          have l2 := x2.toNat_lt
          have l7 := x7.toNat_lt
          have l16 := x16.toNat_lt
          have i15 : (t : Int) - 15 = ((t - 15 : Nat) : Int) := by omega
          have i2 : (t : Int) - 2 = ((t - 2 : Nat) : Int) := by omega
          have i7 : (t : Int) - 7 = ((t - 7 : Nat) : Int) := by omega
          have i16 : (t : Int) - 16 = ((t - 16 : Nat) : Int) := by omega
          have j15 : ((t - 15 : Nat) : Int) < (t : Int) := by omega
          have j2 : ((t - 2 : Nat) : Int) < (t : Int) := by omega
          have j7 : ((t - 7 : Nat) : Int) < (t : Int) := by omega
          have j16 : ((t - 16 : Nat) : Int) < (t : Int) := by omega
          have ht64' : (t : Int) < 64 := by omega
          have HNW : Hid (nw = _) := hnw
          clear hown hnw
          go_wp2_with fail
          refine (turned_7 _ _).mono ?_
          rintro e w' ⟨rfl, hw⟩
          obtain rfl := hw.symm
          clear hw
          go_wp2_with fail
          refine (turned_18 _ _).mono ?_
          rintro e w' ⟨rfl, hw⟩
          obtain rfl := hw.symm
          clear hw
          go_wp2_with fail
          refine (turned_17 _ _).mono ?_
          rintro e w' ⟨rfl, hw⟩
          obtain rfl := hw.symm
          clear hw
          go_wp2_with fail
          refine (turned_19 _ _).mono ?_
          rintro e w' ⟨rfl, hw⟩
          obtain rfl := hw.symm
          clear hw
          clear h15 h2
          go_wp2_with fail
          simp only [wshr3, wshr10, w_xor]
          obtain ⟨s0, hs0⟩ : ∃ s0, rot x15 7 ^^^ rot x15 18 ^^^ x15 >>> 3 = s0 := ⟨_, rfl⟩
          obtain ⟨s1, hs1⟩ : ∃ s1, rot x2 17 ^^^ rot x2 19 ^^^ x2 >>> 10 = s1 := ⟨_, rfl⟩
          rw [hs0, hs1] at HNW
          rw [hs0, hs1]
          clear hs0 hs1
          have ls0 := s0.toNat_lt
          have ls1 := s1.toNat_lt
          have HNUM : Hid (s1 + x7 + s0 + x16 = nw) := HNW.out.symm
          have WA := w_wadd
          have W7 : IntKind.i64.wrap ((t - 7 : Nat) : Int) = ((t - 7 : Nat) : Int) := by rw [IntKind.wrap_i64]; omega
          have W16 : IntKind.i64.wrap ((t - 16 : Nat) : Int) = ((t - 16 : Nat) : Int) := by rw [IntKind.wrap_i64]; omega
          have HOA : Hid ((wr.alloc (.cells #[.int .u32 (nw.toNat : Int)] 196)).drew.ownsRow q 196 1 (.slice (some ⟨g, 0, none⟩) t c) t (wcells (sched bl t))) := by have := (HOWN.out.alloc (.cells #[.int .u32 (nw.toNat : Int)] 196)).drew; rw [hlen] at this; exact this
          have HBL : Hid (Below wr.heap.size wr (wr.alloc (.cells #[.int .u32 (nw.toNat : Int)] 196)).drew) := Below.drew (bel_alloc _ _)
          refine wp_region_held_drew (S := fun w' => w'.cell? ⟨g, t - 7, none⟩ = some (.int .u32 x7.toNat) ∧ w'.cell? ⟨g, t - 16, none⟩ = some (.int .u32 x16.toNat)) (by kernel_rfl) ⟨h7, h16⟩ (fun hHeld => ?_)
          refine wpAnyH_take (i := 0) (v := ?_) rfl (by kernel_rfl) (by kernel_rfl) (by kernel_rfl) (fun _ _ _ h => h) (Or.inl ⟨by rfl, ?_⟩) (by assumption) ?_
          rotate_left
          · (intro w hSw; (try dsimp only at hSw); go_simp; try with_reducible rfl)
          simp only [Act.put, List.getElem_toArray, List.getElem_cons_zero, List.setIfInBounds_toArray, List.set_cons_zero, List.set_cons_succ]
          refine wpAnyH_take (i := 1) (v := ?_) rfl (by kernel_rfl) (by kernel_rfl) (by kernel_rfl) (fun _ _ _ h => h) (Or.inl ⟨by rfl, ?_⟩) (by assumption) ?_
          rotate_left
          · (intro w hSw; (try dsimp only at hSw); go_simp; try with_reducible rfl)
          simp only [Act.put, List.getElem_toArray, List.getElem_cons_zero, List.getElem_cons_succ, List.setIfInBounds_toArray, List.set_cons_zero, List.set_cons_succ]
          refine wpAnyH_take (i := 2) (v := ?_) rfl (by kernel_rfl) (by kernel_rfl) (by kernel_rfl) (fun _ _ _ h => h) (Or.inl ⟨by rfl, ?_⟩) (by assumption) ?_
          rotate_left
          · (intro w hSw; (try dsimp only at hSw); go_simp; try with_reducible rfl)
          simp only [Act.put, List.getElem_toArray, List.getElem_cons_zero, List.getElem_cons_succ, List.setIfInBounds_toArray, List.set_cons_zero, List.set_cons_succ]
          refine wpAnyH_take (i := 3) (v := ?_) rfl (by kernel_rfl) (by kernel_rfl) (by kernel_rfl) (fun _ _ _ h => h) (Or.inl ⟨by rfl, ?_⟩) (by assumption) ?_
          rotate_left
          · (intro w hSw; (try dsimp only at hSw); go_simp; try with_reducible rfl)
          simp only [Act.put, List.getElem_toArray, List.getElem_cons_zero, List.getElem_cons_succ, List.setIfInBounds_toArray, List.set_cons_zero, List.set_cons_succ]
          refine wpAnyH_take (i := 4) (v := ?_) rfl (by kernel_rfl) (by kernel_rfl) (by kernel_rfl) (fun _ _ _ h => h) (Or.inl ⟨by rfl, ?_⟩) (by assumption) ?_
          rotate_left
          · (intro w hSw; (try dsimp only at hSw); go_simp; try with_reducible rfl)
          simp only [Act.put, List.getElem_toArray, List.getElem_cons_zero, List.getElem_cons_succ, List.setIfInBounds_toArray, List.set_cons_zero, List.set_cons_succ]
          refine wpAnyH_take (i := 5) (v := ?_) rfl (by kernel_rfl) (by kernel_rfl) (by kernel_rfl) (fun _ _ _ h => h) (Or.inl ⟨by rfl, ?_⟩) (by assumption) ?_
          rotate_left
          · (intro w hSw; (try dsimp only at hSw); go_simp; try with_reducible rfl)
          simp only [Act.put, List.getElem_toArray, List.getElem_cons_zero, List.getElem_cons_succ, List.setIfInBounds_toArray, List.set_cons_zero, List.set_cons_succ]
          refine wpAnyH_take (i := 6) (v := ?_) rfl (by kernel_rfl) (by kernel_rfl) (by kernel_rfl) (fun _ _ _ h => h) (Or.inl ⟨by rfl, ?_⟩) (by assumption) ?_
          rotate_left
          · (intro w hSw; (try dsimp only at hSw); go_simp; try with_reducible rfl)
          simp only [Act.put, List.getElem_toArray, List.getElem_cons_zero, List.getElem_cons_succ, List.setIfInBounds_toArray, List.set_cons_zero, List.set_cons_succ]
          refine wpAnyH_take (i := 7) (v := ?_) rfl (by kernel_rfl) (by kernel_rfl) (by kernel_rfl) (fun _ _ _ h => h) (Or.inl ⟨by rfl, ?_⟩) (by assumption) ?_
          rotate_left
          · (intro w hSw; (try dsimp only at hSw); go_simp; try with_reducible rfl)
          simp only [Act.put, List.getElem_toArray, List.getElem_cons_zero, List.getElem_cons_succ, List.setIfInBounds_toArray, List.set_cons_zero, List.set_cons_succ]
          refine wpAnyH_take (i := 8) (v := ?_) rfl (by kernel_rfl) (by kernel_rfl) (by kernel_rfl) (fun _ _ _ h => h) (Or.inl ⟨by rfl, ?_⟩) (by assumption) ?_
          rotate_left
          · (intro w hSw; (try dsimp only at hSw); go_simp; try with_reducible rfl)
          simp only [Act.put, List.getElem_toArray, List.getElem_cons_zero, List.getElem_cons_succ, List.setIfInBounds_toArray, List.set_cons_zero, List.set_cons_succ]
          refine wpAnyH_take (i := 9) (v := ?_) rfl (by kernel_rfl) (by kernel_rfl) (by kernel_rfl) (fun _ _ _ h => h) (Or.inl ⟨by rfl, ?_⟩) (by assumption) ?_
          rotate_left
          · (intro w hSw; (try dsimp only at hSw); go_simp; try with_reducible rfl)
          simp only [Act.put, List.getElem_toArray, List.getElem_cons_zero, List.getElem_cons_succ, List.setIfInBounds_toArray, List.set_cons_zero, List.set_cons_succ]
          refine wpAnyH_take (i := 10) (v := ?_) rfl (by kernel_rfl) (by kernel_rfl) (by kernel_rfl) (fun _ _ _ h => h) (Or.inl ⟨by rfl, ?_⟩) (by assumption) ?_
          rotate_left
          · (intro w hSw; (try dsimp only at hSw); go_simp; try with_reducible rfl)
          simp only [Act.put, List.getElem_toArray, List.getElem_cons_zero, List.getElem_cons_succ, List.setIfInBounds_toArray, List.set_cons_zero, List.set_cons_succ]
          refine wpAnyH_take (i := 11) (v := ?_) rfl (by kernel_rfl) (by kernel_rfl) (by kernel_rfl) (fun _ _ _ h => h) (Or.inl ⟨by rfl, ?_⟩) (by assumption) ?_
          rotate_left
          · (intro w hSw; (try dsimp only at hSw); go_simp; try with_reducible rfl)
          simp only [Act.put, List.getElem_toArray, List.getElem_cons_zero, List.getElem_cons_succ, List.setIfInBounds_toArray, List.set_cons_zero, List.set_cons_succ]
          refine wpAnyH_take (i := 12) (v := ?_) rfl (by kernel_rfl) (by kernel_rfl) (by kernel_rfl) (fun _ _ _ h => h) (Or.inl ⟨by rfl, ?_⟩) (by assumption) ?_
          rotate_left
          · (intro w hSw; (try dsimp only at hSw); go_simp; try with_reducible rfl)
          simp only [Act.put, List.getElem_toArray, List.getElem_cons_zero, List.getElem_cons_succ, List.setIfInBounds_toArray, List.set_cons_zero, List.set_cons_succ]
          refine wpAnyH_take (i := 13) (v := ?_) rfl (by kernel_rfl) (by kernel_rfl) (by kernel_rfl) (fun _ _ _ h => h) (Or.inl ⟨by rfl, ?_⟩) (by assumption) ?_
          rotate_left
          · (intro w hSw; (try dsimp only at hSw); go_simp; try with_reducible rfl)
          simp only [Act.put, List.getElem_toArray, List.getElem_cons_zero, List.getElem_cons_succ, List.setIfInBounds_toArray, List.set_cons_zero, List.set_cons_succ]
          refine wpAnyH_take (i := 14) (v := ?_) rfl (by kernel_rfl) (by kernel_rfl) (by kernel_rfl) (fun _ _ _ h => h) (Or.inl ⟨by rfl, ?_⟩) (by assumption) ?_
          rotate_left
          · (intro w hSw; (try dsimp only at hSw); go_simp; try with_reducible rfl)
          simp only [Act.put, List.getElem_toArray, List.getElem_cons_zero, List.getElem_cons_succ, List.setIfInBounds_toArray, List.set_cons_zero, List.set_cons_succ]
          refine wpAnyH_take (i := 15) (v := ?_) rfl (by kernel_rfl) (by kernel_rfl) (by kernel_rfl) (fun _ _ _ h => h) (Or.inl ⟨by rfl, ?_⟩) (by assumption) ?_
          rotate_left
          · (intro w hSw; (try dsimp only at hSw); go_simp; try with_reducible rfl)
          simp only [Act.put, List.getElem_toArray, List.getElem_cons_zero, List.getElem_cons_succ, List.setIfInBounds_toArray, List.set_cons_zero, List.set_cons_succ]
          simp only [w_add, w_wadd, HNUM.out]
          refine wpAnyH_ready (rs := [16]) (by kernel_rfl) (by simp) ?_
          refine AllReadyH.cons rfl (fun K hK => ?_) ?_
          rotate_left
          · exact AllReadyH.nil
          go_simp
          refine hK.out _ _ ⟨by rw [HBL.out.cell (p := ⟨g, t - 7, none⟩) hglt]; exact h7, by rw [HBL.out.cell (p := ⟨g, t - 16, none⟩) hglt]; exact h16⟩ (fun hHeld => ?_)
          clear hK K
          refine wpAnyH_ready (rs := [17]) (by kernel_rfl) (by simp) ?_
          refine AllReadyH.cons rfl (fun K hK => ?_) ?_
          rotate_left
          · exact AllReadyH.nil
          refine step_append_kept _ rfl (.tmp 66) (.tmp 82) rfl q g t c (sched bl t) hlen rfl HOA.out (by simp; omega) ⟨wr.heap.size, 0, none⟩ 1 nw rfl (word_one wr nw _ rfl) (by omega) ?_
          intro g3 c3 w3 hown3 hg3 hc3 hcc3 hbel3 hkept3
          have hbw3 : Below q w w3 := (Below.drew (hbr.alloc hsr _)).trans hbel3
          refine hK.out _ _ ⟨by rw [hkept3 (t - 7) (by omega), HBL.out.cell (p := ⟨g, t - 7, none⟩) hglt]; exact h7, by rw [hkept3 (t - 16) (by omega), HBL.out.cell (p := ⟨g, t - 16, none⟩) hglt]; exact h16⟩ (fun hHeld => ?_)
          clear hK K
          simp only [Act.put, List.getElem_toArray, List.getElem_cons_zero, List.getElem_cons_succ, List.setIfInBounds_toArray, List.set_cons_zero, List.set_cons_succ]
          refine wpAnyH_take (i := 18) (v := ?_) rfl (by kernel_rfl) (by kernel_rfl) (by kernel_rfl) (fun _ _ _ h => h) (Or.inl ⟨by rfl, ?_⟩) (by assumption) ?_
          rotate_left
          · (intro w hSw; (try dsimp only at hSw); go_simp; try with_reducible rfl)
          simp only [Act.put, List.getElem_toArray, List.getElem_cons_zero, List.getElem_cons_succ, List.setIfInBounds_toArray, List.set_cons_zero, List.set_cons_succ]
          refine wpAnyH_done (by kernel_rfl) ?_ _
          clear hHeld
          rw [← HNX.out] at hown3
          have HO3 : Hid (w3.ownsRow q 196 1 (.slice (some ⟨g3, 0, none⟩) (t + 1) c3) (t + 1) (wcells (sched bl (t + 1)))) := hown3
          clear hown3 HOA HBL HOWN hbel3 hkept3 h7 h16 WA W7 W16
          go_wp2
          go_roundw
          case rel => exact ⟨t + 1, g3, c3, by omega, by omega, by go_num, rfl, HO3.out, hc3, hcc3, hbw3⟩
          case measure => simp [intOf]; omega
        · have ht64' : ¬ ((t : Int) < 64) := by omega
          have ht6 : t = 64 := by omega
          have HW : Hid (WW wr g (sched bl 64)) := by
            show WW _ _ _
            intro j hj
            have := word_cell hown j (by omega)
            rw [ht6] at this
            exact this
          have hgq := (hown.lt g rfl).1
          have HT : Hid (t = 64) := ht6
          clear hown ht6
          go_wp2
          go_ret
          refine ⟨g, ⟨c, ?_⟩, hgq, hglt, HW.out, hbr⟩
          rw [HT.out]; rfl
end Go.Proofs.YtecacjddggljgaaDoor.Sm
