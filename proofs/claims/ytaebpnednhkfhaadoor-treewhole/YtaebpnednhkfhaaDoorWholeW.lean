/-
  The walk of marlstonelaw05.TreeWhole.
-/
import Derived.Test.YtaebpnednhkfhaaDoorShown
import Derived.Test.YtaebpnednhkfhaaDoorPartV
import Derived.Test.YtaebpnednhkfhaaDoorAll
namespace Go.Proofs.YtaebpnednhkfhaaDoor
open Go.RowKit
theorem outL_pos {c d : Nat} (hcd : c < d) : ∀ (k a b : Nat), b - a ≤ k → a < b → b ≤ 9223372036854775807 → ¬ (c ≤ a ∧ b ≤ d) → 0 < (outL a b c d).length := by
  intro k
  induction k with
  | zero => intro a b h1 h2; omega
  | succ k ih =>
    intro a b hk hab hb hn
    by_cases h1 : b ≤ c ∨ d ≤ a
    · rw [outL_apart h1]; simp
    · obtain ⟨h2, he⟩ := outL_two hcd hab hb h1 hn
      obtain ⟨s1, s2, -⟩ := halfN_spec (b - a) h2 (by omega)
      rw [he, List.length_append]
      by_cases hw : c ≤ a ∧ a + halfN (b - a) ≤ d
      · have := ih (a + halfN (b - a)) b (by omega) (by omega) hb (by omega)
        omega
      · have := ih a (a + halfN (b - a)) (by omega) (by omega) (by omega) hw
        omega
theorem outL_all (n : Nat) (hn : 0 < n) : outL 0 n 0 n = [] := by
  show outF (63 + 1) 0 n 0 n = []
  rw [outF, if_neg (by omega), if_pos (by omega)]
theorem fill_all (z : Int) (ls : List LV) (ds : List (List UInt8)) (hn : 0 < ls.length) : fillF z ls 0 (0 + ls.length) 64 0 ls.length ds = rootD z (bytesL ls) := by
  show fillF z ls 0 (0 + ls.length) (63 + 1) 0 ls.length ds = _
  rw [fillF, if_neg (by omega), if_pos (by omega)]
  simp [partL]
/-- A literal of one digest, where it is wanted. -/
theorem step_build_digG {ops : Array Oper} {o : Oper} {a : Act} {K : Act → World → Prop} {Q : Exit → Act → World → Prop} {E : Prop} (w : World)
    (hw : Region.wanted o (yielded ops a.tmps) = true) (x : Operand) (hop : o.op = Op.buildSlice 40 1 #[(0, x)]) (d : List UInt8) (hx : a.eval x = dv d) (hd : d.length = 32)
    (hK : K (a.put o.dst (.slice (some ⟨w.heap.size, 0, none⟩) 1 1)) (w.alloc (.cells (cellsOf d).toArray 24))) :
    if Region.wanted o (yielded ops a.tmps) = true then Oper.wp Tryd.prog o a w K Q else E := by
  rw [if_pos hw]
  obtain ⟨i0, hi, hz0, hz1, hz2⟩ := info_parts info24
  refine wp_buildSlice 40 24 1 _ hop (cellsOf d).toArray i0 _ Tryd.underlying40 hi hz0 (by rw [hz1]; omega) (by rw [hz1]; omega) ?_ hK
  rw [hz1]
  have h := Great.fill_whole (s := 32) (by omega) [dv d] ((Array.range (1 * 32)).map ((Value.agg (List.replicate 32 (Value.int .u8 0)).toArray).cells[· % (Value.agg (List.replicate 32 (Value.int .u8 0)).toArray).cells.size]!)) (fun v hv => by
    rw [List.mem_singleton] at hv
    subst hv
    exact dig_size hd) (by simp)
  have e1 : (#[(0, x)].map fun (y : Nat × Operand) => (y.1, a.eval y.2)).toList = ([dv d].zipIdx 0).map fun x => (x.2, x.1) := by simp [hx]
  have e2 : [dv d].flatMap (fun v => v.cells.toList) = cellsOf d := by simp [dv, Value.cells]
  rw [e2] at h
  exact (congrArg _ e1).trans h
theorem pathv_nil (w : World) : PathV w none [] := ⟨fun d hd => by simp at hd, fun h => absurd h (by simp)⟩
theorem path_one {w : World} {g : Nat} {d : List UInt8} {t : TypeId} {fr : Nat × Nat} (h : w.heap[g]? = some (.cells (cellsOf d).toArray t fr)) (hd : d.length = 32) : PathV w (some ⟨g, 0, none⟩) [d] :=
  ⟨fun e he => by rw [List.mem_singleton] at he; rw [he]; exact hd, fun _ => ⟨g, 0, rfl, fun k e hk => by
    match k, hk with
    | 0, hk => cases hk; exact range_of h
    | _ + 1, hk => simp at hk⟩⟩
set_option maxRecDepth 100000 in
set_option maxHeartbeats 20000000 in
theorem whole_walk (z : Int) (a0 : Option Addr) (n0 c0 : Nat) (b off : Nat) (ps : List PP) (more : List UInt8) (w : World) (hP : Pieces w b off ps) (hn : ps.length = n0) (ha : 0 < n0 → a0 = some ⟨b, off, none⟩) (hK : WW w 0 ks) (h0 : 0 < w.heap.size) (hz : -9223372036854775808 ≤ z ∧ z ≤ 9223372036854775807) (hm : more.length = 32) :
    Calls Tryd.prog 11 #[.int .i64 z, .slice a0 n0 c0, dv more] w fun e w' => e = .returned (.bool true) ∧ Below w.heap.size w w' := by
  have HKW : Hid (WW w 0 ks ∧ 0 < w.heap.size) := ⟨hK, h0⟩
  have HSH : Hid (∀ W, Below w.heap.size w W → Calls Tryd.prog 20 #[] W fun e w' => e = .returned (.bool true) ∧ Below W.heap.size W w') := fun W hW => shown_any W (hK.below hW h0) (Nat.lt_of_lt_of_le h0 hW.size)
  have HSM : Hid (∀ W, Below w.heap.size w W → Calls Tryd.prog 21 #[.slice a0 n0 c0] W fun e w' => ∃ ao' n' c', e = .returned (.slice ao' n' c') ∧ CutV w' ao' n' c' (cutL ps 70 200) ∧ n' ≤ 70 ∧ Below W.heap.size W w') := fun W hW => small_any b off n0 c0 a0 ps W (hP.below hW (Nat.le_refl _)) hn ha
  have HZ : Hid (-9223372036854775808 ≤ z ∧ z ≤ 9223372036854775807) := hz
  clear hP hn ha hK h0 hz
  have HMO : Hid (more.length = 32) := hm
  have HIM : Hid ((Tryd.prog.info? 24).map (·.size) = some (cellsOf more).length) := by show _ = _; rw [size24, cellsOf_length, hm]
  clear hm
  unfold dv
  obtain ⟨cm, HCM⟩ : ∃ c, Hid ((cellsOf more).toArray = c) := ⟨_, rfl⟩
  rw [HCM.out]
  go_enter Tryd.func11, Tryd.ntmps11
  go_wp2_with fail
  refine (HSH.out _ (bel_alloc w (Obj.cells cm 24))).mono ?_
  rintro e w1 ⟨rfl, hb1⟩
  have HB1 : Hid (Below w.heap.size w w1) := (bel_alloc w (Obj.cells cm 24)).trans (hb1.mono (bel_alloc w (Obj.cells cm 24)).size)
  have HB01 : Hid (Below _ _ w1) := hb1
  clear hb1
  go_wp2_with fail
  refine (HSM.out _ HB1.out).mono ?_
  rintro e w2 ⟨ao, n, c, rfl, ⟨ls, hL, hE⟩, hn70, hb2⟩
  have HLV : Hid (LeavesV w2 ao n c ls) := hL
  have HEL : Hid (bytesL ls = cutL ps 70 200) := hE
  have HN70 : Hid (n ≤ 70) := hn70
  have HB2 : Hid (Below w.heap.size w w2) := HB1.out.trans (hb2.mono HB1.out.size)
  have HB02 : Hid (Below _ _ w2) := HB01.out.trans (hb2.mono HB01.out.size)
  have HKB : Hid (∀ W, Below w2.heap.size w2 W → WW W 0 ks ∧ 0 < W.heap.size) := fun W hW => by
    have h1 := HB2.out.trans (hW.mono HB2.out.size)
    exact ⟨HKW.out.1.below h1 HKW.out.2, Nat.lt_of_lt_of_le HKW.out.2 h1.size⟩
  clear hL hE hn70 hb2 HB1 HSH HSM HB01
  obtain ⟨w3, HW3⟩ : ∃ W, Hid (w2.alloc (Obj.cells #[Value.int IntKind.i64 z] 30) = W) := ⟨_, rfl⟩
  have HB3 : Hid (Below w2.heap.size w2 w3) := by show Below _ _ _; rw [← HW3.out]; exact bel_alloc _ _
  have HN3 : Hid (w3.heap[w2.heap.size]? = some (.cells #[Value.int IntKind.i64 z] 30 (0, 0))) := by show _ = _; rw [← HW3.out]; exact heap_alloc_new _ _
  have HKB3 : Hid (∀ W, Below w3.heap.size w3 W → WW W 0 ks ∧ 0 < W.heap.size) := fun W hW => HKB.out W (HB3.out.trans (hW.mono HB3.out.size))
  have HLV3 : Hid (∀ W, Below w3.heap.size w3 W → LeavesV W ao n c ls) := fun W hW => (HLV.out.below HB3.out (Nat.le_refl _)).below hW (Nat.le_refl _)
  have HBW : Hid (∀ W, Below w3.heap.size w3 W → Below w.heap.size w W) := fun W hW => HB2.out.trans ((HB3.out.trans (hW.mono HB3.out.size)).mono HB2.out.size)
  have HNC : Hid (n ≤ c ∧ c ≤ 9223372036854775807) := ⟨HLV.out.2.1, HLV.out.2.2.1⟩
  have HCZ : Hid (∀ W, Below w3.heap.size w3 W → W.cell? ⟨w2.heap.size, 0, none⟩ = some (.int .i64 z)) := fun W hW => bel_cell2 hW (Nat.le_refl _) (by rw [cell_of_row w3 _ 0 _ _ _ HN3.out]; rfl)
  by_cases hn0 : n = 0
  · subst hn0
    go_wp2_with fail
    go_ret
    exact ⟨rfl, HB2.out⟩
  have hz1 : ((n : Int) == 0) = false := by simp; omega
  have HMR : Hid (w2.rangeAt w.heap.size 0 (cellsOf more)) := range_bel (range_of (by rw [HCM.out]; exact heap_alloc_new w (Obj.cells cm 24))) HB02.out (Nat.le_refl _)
  obtain ⟨b1, o1, rfl, -⟩ := HLV.out.2.2.2 (by omega)
  obtain ⟨rt, HRT⟩ : ∃ d, Hid (rootD z (bytesL ls) = d) := ⟨_, rfl⟩
  have HRTL : Hid (rt.length = 32) := by show _ = _; rw [← HRT.out]; exact rootD_length _ _
  have HIR : Hid ((Tryd.prog.info? 24).map (·.size) = some (cellsOf rt).length) := by show _ = _; rw [size24, cellsOf_length, HRTL.out]
  have HRO : Hid (∀ W, Below w3.heap.size w3 W → Calls Tryd.prog 23 #[.agg #[.int .i64 z], .slice (some ⟨b1, o1, none⟩) n c] W fun e w' => e = .returned (dv rt) ∧ Below W.heap.size W w') := fun W hW => by
    have h := root_any z HZ.out n _ c _ W (HLV3.out W hW) (Nat.le_trans HN70.out (by omega)) (HKB3.out W hW).1 (HKB3.out W hW).2
    rw [HRT.out] at h; exact h
  go_wp2_with fail
  rw [HW3.out]
  refine (HRO.out _ (Below.refl _ _)).mono ?_
  rintro e w4 ⟨rfl, hb4⟩
  have HB4 : Hid (Below w3.heap.size w3 w4) := hb4
  clear hb4 HRO
  unfold dv
  have HN_w5 : Hid ((w4.alloc (.cells #[Value.int IntKind.u8 0, Value.int IntKind.u8 0, Value.int IntKind.u8 0, Value.int IntKind.u8 0, Value.int IntKind.u8 0, Value.int IntKind.u8 0, Value.int IntKind.u8 0, Value.int IntKind.u8 0, Value.int IntKind.u8 0, Value.int IntKind.u8 0, Value.int IntKind.u8 0, Value.int IntKind.u8 0, Value.int IntKind.u8 0, Value.int IntKind.u8 0, Value.int IntKind.u8 0, Value.int IntKind.u8 0, Value.int IntKind.u8 0, Value.int IntKind.u8 0, Value.int IntKind.u8 0, Value.int IntKind.u8 0, Value.int IntKind.u8 0, Value.int IntKind.u8 0, Value.int IntKind.u8 0, Value.int IntKind.u8 0, Value.int IntKind.u8 0, Value.int IntKind.u8 0, Value.int IntKind.u8 0, Value.int IntKind.u8 0, Value.int IntKind.u8 0, Value.int IntKind.u8 0, Value.int IntKind.u8 0, Value.int IntKind.u8 0] 24)).heap[w4.heap.size]? = some (.cells #[Value.int IntKind.u8 0, Value.int IntKind.u8 0, Value.int IntKind.u8 0, Value.int IntKind.u8 0, Value.int IntKind.u8 0, Value.int IntKind.u8 0, Value.int IntKind.u8 0, Value.int IntKind.u8 0, Value.int IntKind.u8 0, Value.int IntKind.u8 0, Value.int IntKind.u8 0, Value.int IntKind.u8 0, Value.int IntKind.u8 0, Value.int IntKind.u8 0, Value.int IntKind.u8 0, Value.int IntKind.u8 0, Value.int IntKind.u8 0, Value.int IntKind.u8 0, Value.int IntKind.u8 0, Value.int IntKind.u8 0, Value.int IntKind.u8 0, Value.int IntKind.u8 0, Value.int IntKind.u8 0, Value.int IntKind.u8 0, Value.int IntKind.u8 0, Value.int IntKind.u8 0, Value.int IntKind.u8 0, Value.int IntKind.u8 0, Value.int IntKind.u8 0, Value.int IntKind.u8 0, Value.int IntKind.u8 0, Value.int IntKind.u8 0] 24 (0, 0))) := heap_alloc_new w4 _
  go_wp2_with (refine wpList_store_row rfl 24 (.tmp 10) (.tmp 23) rfl w4.heap.size (cellsOf rt).toArray rfl rfl 24 _ HN_w5.out (by rw [size24, dig_size HRTL.out]) (by rw [dig_size HRTL.out]; rfl) (cells_all _) ?_)
  have HR_w5 := setRow_heap _ _ _ (cellsOf rt).toArray _ _ HN_w5.out
  have HB_w5 : Below w4.heap.size w4 ((w4.alloc (.cells #[Value.int IntKind.u8 0, Value.int IntKind.u8 0, Value.int IntKind.u8 0, Value.int IntKind.u8 0, Value.int IntKind.u8 0, Value.int IntKind.u8 0, Value.int IntKind.u8 0, Value.int IntKind.u8 0, Value.int IntKind.u8 0, Value.int IntKind.u8 0, Value.int IntKind.u8 0, Value.int IntKind.u8 0, Value.int IntKind.u8 0, Value.int IntKind.u8 0, Value.int IntKind.u8 0, Value.int IntKind.u8 0, Value.int IntKind.u8 0, Value.int IntKind.u8 0, Value.int IntKind.u8 0, Value.int IntKind.u8 0, Value.int IntKind.u8 0, Value.int IntKind.u8 0, Value.int IntKind.u8 0, Value.int IntKind.u8 0, Value.int IntKind.u8 0, Value.int IntKind.u8 0, Value.int IntKind.u8 0, Value.int IntKind.u8 0, Value.int IntKind.u8 0, Value.int IntKind.u8 0, Value.int IntKind.u8 0, Value.int IntKind.u8 0] 24)).setRow w4.heap.size (cellsOf rt).toArray) := below_row (bel_alloc w4 _) (Nat.le_refl _) _
  obtain ⟨w5, HW_w5⟩ : ∃ W, Hid ((w4.alloc (.cells #[Value.int IntKind.u8 0, Value.int IntKind.u8 0, Value.int IntKind.u8 0, Value.int IntKind.u8 0, Value.int IntKind.u8 0, Value.int IntKind.u8 0, Value.int IntKind.u8 0, Value.int IntKind.u8 0, Value.int IntKind.u8 0, Value.int IntKind.u8 0, Value.int IntKind.u8 0, Value.int IntKind.u8 0, Value.int IntKind.u8 0, Value.int IntKind.u8 0, Value.int IntKind.u8 0, Value.int IntKind.u8 0, Value.int IntKind.u8 0, Value.int IntKind.u8 0, Value.int IntKind.u8 0, Value.int IntKind.u8 0, Value.int IntKind.u8 0, Value.int IntKind.u8 0, Value.int IntKind.u8 0, Value.int IntKind.u8 0, Value.int IntKind.u8 0, Value.int IntKind.u8 0, Value.int IntKind.u8 0, Value.int IntKind.u8 0, Value.int IntKind.u8 0, Value.int IntKind.u8 0, Value.int IntKind.u8 0, Value.int IntKind.u8 0] 24)).setRow w4.heap.size (cellsOf rt).toArray = W) := ⟨_, rfl⟩
  rw [HW_w5.out] at HR_w5 HB_w5 ⊢
  have HR_w5 : Hid _ := HR_w5
  have HB_w5 : Hid (Below w4.heap.size w4 w5) := HB_w5
  clear HW_w5 HN_w5
  have HB35 : Hid (Below w3.heap.size w3 w5) := HB4.out.trans (HB_w5.out.mono HB4.out.size)
  have HKB5 : Hid (∀ W, Below w5.heap.size w5 W → WW W 0 ks ∧ 0 < W.heap.size) := fun W hW => HKB3.out W (HB35.out.trans (hW.mono HB35.out.size))
  have HLV5 : Hid (∀ W, Below w5.heap.size w5 W → LeavesV W (some ⟨b1, o1, none⟩) n c ls) := fun W hW => HLV3.out W (HB35.out.trans (hW.mono HB35.out.size))
  have HLL : Hid (ls.length = n) := HLV.out.1
  have hn7 := HN70.out
  have HQ1 : Hid (∀ W, Below w5.heap.size w5 W → Calls Tryd.prog 43 #[.agg #[.int .i64 z], dv rt, .int .i64 (n : Int), .int .i64 0, (.slice (some ⟨b1, o1, none⟩) n c), .slice none 0 0] W fun e w' => e = .returned (.bool true) ∧ Below W.heap.size W w') := fun W hW => by
    have hL := HLV5.out W hW
    have hk := HKB5.out W hW
    have h := crange_any z rt (n : Int) 0 _ _ _ ls none 0 0 [] W HRTL.out (by omega) rfl (Nat.le_refl _) (pathv_nil W) hL (by omega) hk.1 hk.2 HZ.out
    rw [show crB z rt (n : Int) 0 ls [] = true from by
      unfold crB
      rw [Int.toNat_natCast, HLL.out, show (0 : Int).toNat = 0 from rfl, Nat.zero_add, outL_all n (by omega), decide_eq_true ⟨by omega, by omega, by omega, rfl⟩, Bool.true_and]
      have h := fill_all z ls [] (by rw [HLL.out]; omega)
      rw [HLL.out, Nat.zero_add, HRT.out] at h
      rw [h, beq_self_eq_true]] at h
    exact h
  have HQ3 : Hid (∀ W, Below w5.heap.size w5 W → Calls Tryd.prog 43 #[.agg #[.int .i64 z], dv rt, .int .i64 (n : Int), .int .i64 1, (.slice (some ⟨b1, o1, none⟩) n c), .slice none 0 0] W fun e w' => e = .returned (.bool false) ∧ Below W.heap.size W w') := fun W hW => by
    have hL := HLV5.out W hW
    have hk := HKB5.out W hW
    have h := crange_any z rt (n : Int) 1 _ _ _ ls none 0 0 [] W HRTL.out (by omega) rfl (Nat.le_refl _) (pathv_nil W) hL (by omega) hk.1 hk.2 HZ.out
    rw [show crB z rt (n : Int) 1 ls [] = false from by
      unfold crB
      rw [decide_eq_false (fun h => by have h2 := h.2.2.1; rw [HLL.out] at h2; omega), Bool.false_and]] at h
    exact h
  have HQ4 : Hid (∀ W, Below w5.heap.size w5 W → Calls Tryd.prog 43 #[.agg #[.int .i64 z], dv rt, .int .i64 ((n : Int) + 1), .int .i64 0, (.slice (some ⟨b1, o1, none⟩) n c), .slice none 0 0] W fun e w' => e = .returned (.bool false) ∧ Below W.heap.size W w') := fun W hW => by
    have hL := HLV5.out W hW
    have hk := HKB5.out W hW
    have h := crange_any z rt ((n : Int) + 1) 0 _ _ _ ls none 0 0 [] W HRTL.out (by omega) rfl (Nat.le_refl _) (pathv_nil W) hL (by omega) hk.1 hk.2 HZ.out
    rw [show crB z rt ((n : Int) + 1) 0 ls [] = false from by
      unfold crB
      rw [decide_eq_false (fun h => by
        have h2 := h.2.2.2
        rw [HLL.out, show ((n : Int) + 1).toNat = n + 1 by omega, show (0 : Int).toNat = 0 from rfl, Nat.zero_add] at h2
        have h3 := outL_pos (c := 0) (d := n) (by omega) (n + 1) 0 (n + 1) (by omega) (by omega) (by omega) (by omega)
        rw [← h2] at h3
        simp at h3), Bool.false_and]] at h
    exact h
  have HQ5 : Hid (∀ W, Below w5.heap.size w5 W → Calls Tryd.prog 43 #[.agg #[.int .i64 z], dv rt, .int .i64 ((n : Int) - 1), .int .i64 0, (.slice (some ⟨b1, o1, none⟩) n c), .slice none 0 0] W fun e w' => e = .returned (.bool false) ∧ Below W.heap.size W w') := fun W hW => by
    have hL := HLV5.out W hW
    have hk := HKB5.out W hW
    have h := crange_any z rt ((n : Int) - 1) 0 _ _ _ ls none 0 0 [] W HRTL.out (by omega) rfl (Nat.le_refl _) (pathv_nil W) hL (by omega) hk.1 hk.2 HZ.out
    rw [show crB z rt ((n : Int) - 1) 0 ls [] = false from by
      unfold crB
      rw [decide_eq_false (fun h => by have h2 := h.2.2.1; rw [HLL.out] at h2; omega), Bool.false_and]] at h
    exact h
  have HQ6 : Hid (∀ W, Below w5.heap.size w5 W → Calls Tryd.prog 43 #[.agg #[.int .i64 z], dv rt, .int .i64 (n : Int), .int .i64 0, (.slice (some ⟨b1, o1, none⟩) (n - 1) c), .slice none 0 0] W fun e w' => e = .returned (.bool false) ∧ Below W.heap.size W w') := fun W hW => by
    have hL := HLV5.out W hW
    have hk := HKB5.out W hW
    have h := crange_any z rt (n : Int) 0 _ _ _ (ls.take (n - 1)) none 0 0 [] W HRTL.out (by omega) rfl (Nat.le_refl _) (pathv_nil W) (hL.take (n - 1) (by omega)) (by omega) hk.1 hk.2 HZ.out
    rw [show crB z rt (n : Int) 0 (ls.take (n - 1)) [] = false from by
      unfold crB
      rw [decide_eq_false (fun h => by
        have hl : (ls.take (n - 1)).length = n - 1 := by rw [List.length_take, HLL.out]; omega
        obtain ⟨h1, -, -, h2⟩ := h
        rw [hl] at h1 h2
        rw [Int.toNat_natCast, show (0 : Int).toNat = 0 from rfl, Nat.zero_add] at h2
        have h3 := outL_pos (c := 0) (d := n - 1) (by omega) n 0 n (by omega) (by omega) (by omega) (by omega)
        rw [← h2] at h3
        simp at h3), Bool.false_and]] at h
    exact h
  have HQ2 : Hid (∀ W g, Below w5.heap.size w5 W → W.heap[g]? = some (.cells (cellsOf more).toArray 24 (0, 0)) → Calls Tryd.prog 43 #[.agg #[.int .i64 z], dv rt, .int .i64 (n : Int), .int .i64 0, .slice (some ⟨b1, o1, none⟩) n c, .slice (some ⟨g, 0, none⟩) 1 1] W fun e w' => e = .returned (.bool false) ∧ Below W.heap.size W w') := fun W g hW hg => by
    have hL := HLV5.out W hW
    have hk := HKB5.out W hW
    have h := crange_any z rt (n : Int) 0 _ _ _ ls (some ⟨g, 0, none⟩) 1 1 [more] W HRTL.out (by omega) rfl (Nat.le_refl _) (path_one hg HMO.out) hL (by omega) hk.1 hk.2 HZ.out
    rw [show crB z rt (n : Int) 0 ls [more] = false from by
      unfold crB
      rw [decide_eq_false (fun h => by
        have h2 := h.2.2.2
        rw [HLL.out, Int.toNat_natCast, show (0 : Int).toNat = 0 from rfl, Nat.zero_add, outL_all n (by omega)] at h2
        simp at h2), Bool.false_and]] at h
    exact h
  unfold dv at HQ1 HQ2 HQ3 HQ4 HQ5 HQ6
  have HS : Hid (∀ W, Below w5.heap.size w5 W → W.cell? ⟨w2.heap.size, 0, none⟩ = some (.int .i64 z) ∧ W.rangeAt w4.heap.size 0 (cellsOf rt) ∧ W.rangeAt w.heap.size 0 (cellsOf more)) := fun W hW =>
    ⟨HCZ.out W (HB35.out.trans (hW.mono HB35.out.size)), range_bel (range_of HR_w5.out) hW (Nat.le_refl _), range_bel (range_bel HMR.out (HB3.out.trans (HB35.out.mono HB3.out.size)) (Nat.le_refl _)) hW (Nat.le_refl _)⟩
  have hnm : ((n : Int) - 1).toNat = n - 1 := by omega
  have hnz1 : (1 : Int) ≤ (n : Int) := by omega
  have hnmc : (n : Int) - 1 ≤ (c : Int) := by have := HNC.out; omega
  have ha1 : wrap64 ((n : Int) + 1) = (n : Int) + 1 := by unfold wrap64; omega
  have ha2 : IntKind.i64.wrap ((n : Int) + 1) = (n : Int) + 1 := (IntWalk.i64_left _).trans ha1
  have hs1 : wrap64 ((n : Int) - 1) = (n : Int) - 1 := by unfold wrap64; omega
  have hs2 : IntKind.i64.wrap ((n : Int) - 1) = (n : Int) - 1 := (IntWalk.i64_left _).trans hs1
  clear hn7 hn0
  clear hz1
  go_upto_region 8 with fail
  refine wp_region_held_drew (S := fun W => W.cell? ⟨w2.heap.size, 0, none⟩ = some (.int .i64 z) ∧ W.rangeAt w4.heap.size 0 (cellsOf rt) ∧ W.rangeAt w.heap.size 0 (cellsOf more)) (by kernel_rfl) (HS.out _ (Below.drew (Below.refl _ _))) (fun hS => ?_)
  refine wpAnyH_take (i := 0) (v := ?_) rfl (by kernel_rfl) (by kernel_rfl) (by kernel_rfl) (fun _ _ _ h => h) (Or.inl ⟨by rfl, ?_⟩) (by assumption) ?_
  rotate_left
  · (intro w hSw; (try dsimp only at hSw); go_simp; try with_reducible rfl)
  simp only [Act.put, List.getElem_toArray, List.getElem_cons_zero, List.setIfInBounds_toArray, List.set_cons_zero, List.set_cons_succ]
  refine wpAnyH_take (i := 1) (v := ?_) rfl (by kernel_rfl) (by kernel_rfl) (by kernel_rfl) (fun _ _ _ h => h) (Or.inl ⟨by rfl, ?_⟩) (by assumption) ?_
  rotate_left
  · (intro w hSw; (try dsimp only at hSw); go_simp; try with_reducible rfl)
  simp only [Act.put, List.getElem_toArray, List.getElem_cons_zero, List.getElem_cons_succ, List.setIfInBounds_toArray, List.set_cons_zero, List.set_cons_succ]
  refine wpAnyH_take (i := 2) (v := ?_) rfl (by kernel_rfl) (by kernel_rfl) (by kernel_rfl) (fun _ _ _ h => h) (Or.inl ⟨by rfl, ?_⟩) (by assumption) ?_
  rotate_left
  · (intro w hSw; (try dsimp only at hSw); go_simp; try with_reducible rfl)
  simp only [Act.put, List.getElem_toArray, List.getElem_cons_zero, List.getElem_cons_succ, List.setIfInBounds_toArray, List.set_cons_zero, List.set_cons_succ]
  refine wpAnyH_take (i := 3) (v := .agg (cellsOf rt).toArray) rfl (by kernel_rfl) (by kernel_rfl) (by kernel_rfl) (fun _ _ _ h => h) (yieldsIf_load_mid (by rfl) 24 (.tmp 10) rfl w4.heap.size 0 rfl (cellsOf rt) _ (fun _ h => h.2.1) Tryd.underlying24 rfl HIR.out) (by assumption) ?_
  simp only [Act.put, List.getElem_toArray, List.getElem_cons_zero, List.getElem_cons_succ, List.setIfInBounds_toArray, List.set_cons_zero, List.set_cons_succ]
  refine wpAnyH_take (i := 4) (v := ?_) rfl (by kernel_rfl) (by kernel_rfl) (by kernel_rfl) (fun _ _ _ h => h) (Or.inl ⟨by rfl, ?_⟩) (by assumption) ?_
  rotate_left
  · (intro w hSw; (try dsimp only at hSw); go_simp; try with_reducible rfl)
  simp only [Act.put, List.getElem_toArray, List.getElem_cons_zero, List.getElem_cons_succ, List.setIfInBounds_toArray, List.set_cons_zero, List.set_cons_succ]
  refine wpAnyH_take (i := 5) (v := ?_) rfl (by kernel_rfl) (by kernel_rfl) (by kernel_rfl) (fun _ _ _ h => h) (Or.inl ⟨by rfl, ?_⟩) (by assumption) ?_
  rotate_left
  · (intro w hSw; (try dsimp only at hSw); go_simp; try with_reducible rfl)
  simp only [Act.put, List.getElem_toArray, List.getElem_cons_zero, List.getElem_cons_succ, List.setIfInBounds_toArray, List.set_cons_zero, List.set_cons_succ]
  refine wpAnyH_ready (rs := [6]) (by kernel_rfl) (by simp) ?_
  refine AllReadyH.cons rfl (fun K hK => ?_) AllReadyH.nil
  go_simp
  refine (HQ1.out _ (Below.drew (Below.refl w5.heap.size w5))).mono ?_
  rintro e y1 ⟨rfl, hy1⟩
  have HC1 : Hid (Below w5.heap.size w5 y1) := (Below.drew (Below.refl w5.heap.size w5)).trans (hy1.mono (Nat.le_refl _))
  clear hy1
  try unfold dv
  go_wp2_with fail
  refine hK.out _ _ (HS.out _ HC1.out) (fun hHeld2 => ?_)
  clear hK K
  refine wpAnyH_take (i := 7) (v := ?_) rfl (by kernel_rfl) (by kernel_rfl) (by kernel_rfl) (fun _ _ _ h => h) (Or.inl ⟨by rfl, ?_⟩) (by assumption) ?_
  rotate_left
  · (intro w hSw; (try dsimp only at hSw); go_simp; try with_reducible rfl)
  simp only [Act.put, List.getElem_toArray, List.getElem_cons_zero, List.getElem_cons_succ, List.setIfInBounds_toArray, List.set_cons_zero, List.set_cons_succ]
  refine wpAnyH_take (i := 8) (v := ?_) rfl (by kernel_rfl) (by kernel_rfl) (by kernel_rfl) (fun _ _ _ h => h) (Or.inl ⟨by rfl, ?_⟩) (by assumption) ?_
  rotate_left
  · (intro w hSw; (try dsimp only at hSw); go_simp; try with_reducible rfl)
  simp only [Act.put, List.getElem_toArray, List.getElem_cons_zero, List.getElem_cons_succ, List.setIfInBounds_toArray, List.set_cons_zero, List.set_cons_succ]
  refine wpAnyH_take (i := 9) (v := ?_) rfl (by kernel_rfl) (by kernel_rfl) (by kernel_rfl) (fun _ _ _ h => h) (Or.inl ⟨by rfl, ?_⟩) (by assumption) ?_
  rotate_left
  · (intro w hSw; (try dsimp only at hSw); go_simp; try with_reducible rfl)
  simp only [Act.put, List.getElem_toArray, List.getElem_cons_zero, List.getElem_cons_succ, List.setIfInBounds_toArray, List.set_cons_zero, List.set_cons_succ]
  refine wpAnyH_take (i := 10) (v := .agg (cellsOf rt).toArray) rfl (by kernel_rfl) (by kernel_rfl) (by kernel_rfl) (fun _ _ _ h => h) (yieldsIf_load_mid (by rfl) 24 (.tmp 10) rfl w4.heap.size 0 rfl (cellsOf rt) _ (fun _ h => h.2.1) Tryd.underlying24 rfl HIR.out) (by assumption) ?_
  simp only [Act.put, List.getElem_toArray, List.getElem_cons_zero, List.getElem_cons_succ, List.setIfInBounds_toArray, List.set_cons_zero, List.set_cons_succ]
  refine wpAnyH_take (i := 11) (v := ?_) rfl (by kernel_rfl) (by kernel_rfl) (by kernel_rfl) (fun _ _ _ h => h) (Or.inl ⟨by rfl, ?_⟩) (by assumption) ?_
  rotate_left
  · (intro w hSw; (try dsimp only at hSw); go_simp; try with_reducible rfl)
  simp only [Act.put, List.getElem_toArray, List.getElem_cons_zero, List.getElem_cons_succ, List.setIfInBounds_toArray, List.set_cons_zero, List.set_cons_succ]
  refine wpAnyH_take (i := 12) (v := ?_) rfl (by kernel_rfl) (by kernel_rfl) (by kernel_rfl) (fun _ _ _ h => h) (Or.inl ⟨by rfl, ?_⟩) (by assumption) ?_
  rotate_left
  · (intro w hSw; (try dsimp only at hSw); go_simp; try with_reducible rfl)
  simp only [Act.put, List.getElem_toArray, List.getElem_cons_zero, List.getElem_cons_succ, List.setIfInBounds_toArray, List.set_cons_zero, List.set_cons_succ]
  refine wpAnyH_take (i := 13) (v := .agg (cellsOf more).toArray) rfl (by kernel_rfl) (by kernel_rfl) (by kernel_rfl) (fun _ _ _ h => h) (yieldsIf_load_mid (by rfl) 24 (.tmp 5) rfl w.heap.size 0 rfl (cellsOf more) _ (fun _ h => h.2.2) Tryd.underlying24 rfl HIM.out) (by assumption) ?_
  simp only [Act.put, List.getElem_toArray, List.getElem_cons_zero, List.getElem_cons_succ, List.setIfInBounds_toArray, List.set_cons_zero, List.set_cons_succ]
  refine wpAnyH_ready (rs := [14]) (by kernel_rfl) (by simp) ?_
  refine AllReadyH.cons rfl (fun K hK => ?_) AllReadyH.nil
  refine step_build_digG _ (by rfl) (.tmp 37) rfl more rfl HMO.out ?_
  have HNb : Hid ((y1.alloc (.cells (cellsOf more).toArray 24)).heap[y1.heap.size]? = some (.cells (cellsOf more).toArray 24 (0, 0))) := heap_alloc_new _ _
  have HCb : Hid (Below w5.heap.size w5 (y1.alloc (.cells (cellsOf more).toArray 24))) := HC1.out.trans ((bel_alloc _ _).mono HC1.out.size)
  refine hK.out _ _ (HS.out _ HCb.out) (fun hHeld2 => ?_)
  clear hK K
  simp only [Act.put, List.getElem_toArray, List.getElem_cons_zero, List.getElem_cons_succ, List.setIfInBounds_toArray, List.set_cons_zero, List.set_cons_succ]
  refine wpAnyH_ready (rs := [15]) (by kernel_rfl) (by simp) ?_
  refine AllReadyH.cons rfl (fun K hK => ?_) AllReadyH.nil
  go_simp
  refine (HQ2.out _ y1.heap.size HCb.out HNb.out).mono ?_
  rintro e y2 ⟨rfl, hy2⟩
  have HC2 : Hid (Below w5.heap.size w5 y2) := HCb.out.trans (hy2.mono HCb.out.size)
  clear hy2
  try unfold dv
  go_wp2_with fail
  refine hK.out _ _ (HS.out _ HC2.out) (fun hHeld2 => ?_)
  clear hK K
  refine wpAnyH_take (i := 16) (v := ?_) rfl (by kernel_rfl) (by kernel_rfl) (by kernel_rfl) (fun _ _ _ h => h) (Or.inl ⟨by rfl, ?_⟩) (by assumption) ?_
  rotate_left
  · (intro w hSw; (try dsimp only at hSw); go_simp; try with_reducible rfl)
  simp only [Act.put, List.getElem_toArray, List.getElem_cons_zero, List.getElem_cons_succ, List.setIfInBounds_toArray, List.set_cons_zero, List.set_cons_succ]
  refine wpAnyH_take (i := 17) (v := ?_) rfl (by kernel_rfl) (by kernel_rfl) (by kernel_rfl) (fun _ _ _ h => h) (Or.inl ⟨by rfl, ?_⟩) (by assumption) ?_
  rotate_left
  · (intro w hSw; (try dsimp only at hSw); go_simp; try with_reducible rfl)
  simp only [Act.put, List.getElem_toArray, List.getElem_cons_zero, List.getElem_cons_succ, List.setIfInBounds_toArray, List.set_cons_zero, List.set_cons_succ]
  refine wpAnyH_take (i := 18) (v := ?_) rfl (by kernel_rfl) (by kernel_rfl) (by kernel_rfl) (fun _ _ _ h => h) (Or.inl ⟨by rfl, ?_⟩) (by assumption) ?_
  rotate_left
  · (intro w hSw; (try dsimp only at hSw); go_simp; try with_reducible rfl)
  simp only [Act.put, List.getElem_toArray, List.getElem_cons_zero, List.getElem_cons_succ, List.setIfInBounds_toArray, List.set_cons_zero, List.set_cons_succ]
  refine wpAnyH_take (i := 19) (v := ?_) rfl (by kernel_rfl) (by kernel_rfl) (by kernel_rfl) (fun _ _ _ h => h) (Or.inl ⟨by rfl, ?_⟩) (by assumption) ?_
  rotate_left
  · (intro w hSw; (try dsimp only at hSw); go_simp; try with_reducible rfl)
  simp only [Act.put, List.getElem_toArray, List.getElem_cons_zero, List.getElem_cons_succ, List.setIfInBounds_toArray, List.set_cons_zero, List.set_cons_succ]
  refine wpAnyH_take (i := 20) (v := .agg (cellsOf rt).toArray) rfl (by kernel_rfl) (by kernel_rfl) (by kernel_rfl) (fun _ _ _ h => h) (yieldsIf_load_mid (by rfl) 24 (.tmp 10) rfl w4.heap.size 0 rfl (cellsOf rt) _ (fun _ h => h.2.1) Tryd.underlying24 rfl HIR.out) (by assumption) ?_
  simp only [Act.put, List.getElem_toArray, List.getElem_cons_zero, List.getElem_cons_succ, List.setIfInBounds_toArray, List.set_cons_zero, List.set_cons_succ]
  refine wpAnyH_take (i := 21) (v := ?_) rfl (by kernel_rfl) (by kernel_rfl) (by kernel_rfl) (fun _ _ _ h => h) (Or.inl ⟨by rfl, ?_⟩) (by assumption) ?_
  rotate_left
  · (intro w hSw; (try dsimp only at hSw); go_simp; try with_reducible rfl)
  simp only [Act.put, List.getElem_toArray, List.getElem_cons_zero, List.getElem_cons_succ, List.setIfInBounds_toArray, List.set_cons_zero, List.set_cons_succ]
  refine wpAnyH_take (i := 22) (v := ?_) rfl (by kernel_rfl) (by kernel_rfl) (by kernel_rfl) (fun _ _ _ h => h) (Or.inl ⟨by rfl, ?_⟩) (by assumption) ?_
  rotate_left
  · (intro w hSw; (try dsimp only at hSw); go_simp; try with_reducible rfl)
  simp only [Act.put, List.getElem_toArray, List.getElem_cons_zero, List.getElem_cons_succ, List.setIfInBounds_toArray, List.set_cons_zero, List.set_cons_succ]
  refine wpAnyH_ready (rs := [23]) (by kernel_rfl) (by simp) ?_
  refine AllReadyH.cons rfl (fun K hK => ?_) AllReadyH.nil
  go_simp
  refine (HQ3.out _ HC2.out).mono ?_
  rintro e y3 ⟨rfl, hy3⟩
  have HC3 : Hid (Below w5.heap.size w5 y3) := HC2.out.trans (hy3.mono HC2.out.size)
  clear hy3
  try unfold dv
  go_wp2_with fail
  refine hK.out _ _ (HS.out _ HC3.out) (fun hHeld2 => ?_)
  clear hK K
  refine wpAnyH_take (i := 24) (v := ?_) rfl (by kernel_rfl) (by kernel_rfl) (by kernel_rfl) (fun _ _ _ h => h) (Or.inl ⟨by rfl, ?_⟩) (by assumption) ?_
  rotate_left
  · (intro w hSw; (try dsimp only at hSw); go_simp; try with_reducible rfl)
  simp only [Act.put, List.getElem_toArray, List.getElem_cons_zero, List.getElem_cons_succ, List.setIfInBounds_toArray, List.set_cons_zero, List.set_cons_succ]
  refine wpAnyH_take (i := 25) (v := ?_) rfl (by kernel_rfl) (by kernel_rfl) (by kernel_rfl) (fun _ _ _ h => h) (Or.inl ⟨by rfl, ?_⟩) (by assumption) ?_
  rotate_left
  · (intro w hSw; (try dsimp only at hSw); go_simp; try with_reducible rfl)
  simp only [Act.put, List.getElem_toArray, List.getElem_cons_zero, List.getElem_cons_succ, List.setIfInBounds_toArray, List.set_cons_zero, List.set_cons_succ]
  refine wpAnyH_take (i := 26) (v := ?_) rfl (by kernel_rfl) (by kernel_rfl) (by kernel_rfl) (fun _ _ _ h => h) (Or.inl ⟨by rfl, ?_⟩) (by assumption) ?_
  rotate_left
  · (intro w hSw; (try dsimp only at hSw); go_simp; try with_reducible rfl)
  simp only [Act.put, List.getElem_toArray, List.getElem_cons_zero, List.getElem_cons_succ, List.setIfInBounds_toArray, List.set_cons_zero, List.set_cons_succ]
  refine wpAnyH_take (i := 27) (v := ?_) rfl (by kernel_rfl) (by kernel_rfl) (by kernel_rfl) (fun _ _ _ h => h) (Or.inl ⟨by rfl, ?_⟩) (by assumption) ?_
  rotate_left
  · (intro w hSw; (try dsimp only at hSw); go_simp; try with_reducible rfl)
  simp only [Act.put, List.getElem_toArray, List.getElem_cons_zero, List.getElem_cons_succ, List.setIfInBounds_toArray, List.set_cons_zero, List.set_cons_succ]
  refine wpAnyH_take (i := 28) (v := .agg (cellsOf rt).toArray) rfl (by kernel_rfl) (by kernel_rfl) (by kernel_rfl) (fun _ _ _ h => h) (yieldsIf_load_mid (by rfl) 24 (.tmp 10) rfl w4.heap.size 0 rfl (cellsOf rt) _ (fun _ h => h.2.1) Tryd.underlying24 rfl HIR.out) (by assumption) ?_
  simp only [Act.put, List.getElem_toArray, List.getElem_cons_zero, List.getElem_cons_succ, List.setIfInBounds_toArray, List.set_cons_zero, List.set_cons_succ]
  refine wpAnyH_take (i := 29) (v := ?_) rfl (by kernel_rfl) (by kernel_rfl) (by kernel_rfl) (fun _ _ _ h => h) (Or.inl ⟨by rfl, ?_⟩) (by assumption) ?_
  rotate_left
  · (intro w hSw; (try dsimp only at hSw); go_simp; try with_reducible rfl)
  simp only [Act.put, List.getElem_toArray, List.getElem_cons_zero, List.getElem_cons_succ, List.setIfInBounds_toArray, List.set_cons_zero, List.set_cons_succ]
  refine wpAnyH_take (i := 30) (v := ?_) rfl (by kernel_rfl) (by kernel_rfl) (by kernel_rfl) (fun _ _ _ h => h) (Or.inl ⟨by rfl, ?_⟩) (by assumption) ?_
  rotate_left
  · (intro w hSw; (try dsimp only at hSw); go_simp; try with_reducible rfl)
  simp only [Act.put, List.getElem_toArray, List.getElem_cons_zero, List.getElem_cons_succ, List.setIfInBounds_toArray, List.set_cons_zero, List.set_cons_succ]
  refine wpAnyH_take (i := 31) (v := ?_) rfl (by kernel_rfl) (by kernel_rfl) (by kernel_rfl) (fun _ _ _ h => h) (Or.inl ⟨by rfl, ?_⟩) (by assumption) ?_
  rotate_left
  · (intro w hSw; (try dsimp only at hSw); go_simp; try with_reducible rfl)
  simp only [Act.put, List.getElem_toArray, List.getElem_cons_zero, List.getElem_cons_succ, List.setIfInBounds_toArray, List.set_cons_zero, List.set_cons_succ]
  refine wpAnyH_ready (rs := [32]) (by kernel_rfl) (by simp) ?_
  refine AllReadyH.cons rfl (fun K hK => ?_) AllReadyH.nil
  go_simp
  refine (HQ4.out _ HC3.out).mono ?_
  rintro e y4 ⟨rfl, hy4⟩
  have HC4 : Hid (Below w5.heap.size w5 y4) := HC3.out.trans (hy4.mono HC3.out.size)
  clear hy4
  try unfold dv
  go_wp2_with fail
  refine hK.out _ _ (HS.out _ HC4.out) (fun hHeld2 => ?_)
  clear hK K
  refine wpAnyH_take (i := 33) (v := ?_) rfl (by kernel_rfl) (by kernel_rfl) (by kernel_rfl) (fun _ _ _ h => h) (Or.inl ⟨by rfl, ?_⟩) (by assumption) ?_
  rotate_left
  · (intro w hSw; (try dsimp only at hSw); go_simp; try with_reducible rfl)
  simp only [Act.put, List.getElem_toArray, List.getElem_cons_zero, List.getElem_cons_succ, List.setIfInBounds_toArray, List.set_cons_zero, List.set_cons_succ]
  refine wpAnyH_take (i := 34) (v := ?_) rfl (by kernel_rfl) (by kernel_rfl) (by kernel_rfl) (fun _ _ _ h => h) (Or.inl ⟨by rfl, ?_⟩) (by assumption) ?_
  rotate_left
  · (intro w hSw; (try dsimp only at hSw); go_simp; try with_reducible rfl)
  simp only [Act.put, List.getElem_toArray, List.getElem_cons_zero, List.getElem_cons_succ, List.setIfInBounds_toArray, List.set_cons_zero, List.set_cons_succ]
  refine wpAnyH_take (i := 35) (v := ?_) rfl (by kernel_rfl) (by kernel_rfl) (by kernel_rfl) (fun _ _ _ h => h) (Or.inl ⟨by rfl, ?_⟩) (by assumption) ?_
  rotate_left
  · (intro w hSw; (try dsimp only at hSw); go_simp; try with_reducible rfl)
  simp only [Act.put, List.getElem_toArray, List.getElem_cons_zero, List.getElem_cons_succ, List.setIfInBounds_toArray, List.set_cons_zero, List.set_cons_succ]
  refine wpAnyH_take (i := 36) (v := ?_) rfl (by kernel_rfl) (by kernel_rfl) (by kernel_rfl) (fun _ _ _ h => h) (Or.inl ⟨by rfl, ?_⟩) (by assumption) ?_
  rotate_left
  · (intro w hSw; (try dsimp only at hSw); go_simp; try with_reducible rfl)
  simp only [Act.put, List.getElem_toArray, List.getElem_cons_zero, List.getElem_cons_succ, List.setIfInBounds_toArray, List.set_cons_zero, List.set_cons_succ]
  refine wpAnyH_take (i := 37) (v := .agg (cellsOf rt).toArray) rfl (by kernel_rfl) (by kernel_rfl) (by kernel_rfl) (fun _ _ _ h => h) (yieldsIf_load_mid (by rfl) 24 (.tmp 10) rfl w4.heap.size 0 rfl (cellsOf rt) _ (fun _ h => h.2.1) Tryd.underlying24 rfl HIR.out) (by assumption) ?_
  simp only [Act.put, List.getElem_toArray, List.getElem_cons_zero, List.getElem_cons_succ, List.setIfInBounds_toArray, List.set_cons_zero, List.set_cons_succ]
  refine wpAnyH_take (i := 38) (v := ?_) rfl (by kernel_rfl) (by kernel_rfl) (by kernel_rfl) (fun _ _ _ h => h) (Or.inl ⟨by rfl, ?_⟩) (by assumption) ?_
  rotate_left
  · (intro w hSw; (try dsimp only at hSw); go_simp; try with_reducible rfl)
  simp only [Act.put, List.getElem_toArray, List.getElem_cons_zero, List.getElem_cons_succ, List.setIfInBounds_toArray, List.set_cons_zero, List.set_cons_succ]
  refine wpAnyH_take (i := 39) (v := ?_) rfl (by kernel_rfl) (by kernel_rfl) (by kernel_rfl) (fun _ _ _ h => h) (Or.inl ⟨by rfl, ?_⟩) (by assumption) ?_
  rotate_left
  · (intro w hSw; (try dsimp only at hSw); go_simp; try with_reducible rfl)
  simp only [Act.put, List.getElem_toArray, List.getElem_cons_zero, List.getElem_cons_succ, List.setIfInBounds_toArray, List.set_cons_zero, List.set_cons_succ]
  refine wpAnyH_take (i := 40) (v := ?_) rfl (by kernel_rfl) (by kernel_rfl) (by kernel_rfl) (fun _ _ _ h => h) (Or.inl ⟨by rfl, ?_⟩) (by assumption) ?_
  rotate_left
  · (intro w hSw; (try dsimp only at hSw); go_simp; try with_reducible rfl)
  simp only [Act.put, List.getElem_toArray, List.getElem_cons_zero, List.getElem_cons_succ, List.setIfInBounds_toArray, List.set_cons_zero, List.set_cons_succ]
  refine wpAnyH_ready (rs := [41]) (by kernel_rfl) (by simp) ?_
  refine AllReadyH.cons rfl (fun K hK => ?_) AllReadyH.nil
  go_simp
  refine (HQ5.out _ HC4.out).mono ?_
  rintro e y5 ⟨rfl, hy5⟩
  have HC5 : Hid (Below w5.heap.size w5 y5) := HC4.out.trans (hy5.mono HC4.out.size)
  clear hy5
  try unfold dv
  go_wp2_with fail
  refine hK.out _ _ (HS.out _ HC5.out) (fun hHeld2 => ?_)
  clear hK K
  refine wpAnyH_take (i := 42) (v := ?_) rfl (by kernel_rfl) (by kernel_rfl) (by kernel_rfl) (fun _ _ _ h => h) (Or.inl ⟨by rfl, ?_⟩) (by assumption) ?_
  rotate_left
  · (intro w hSw; (try dsimp only at hSw); go_simp; try with_reducible rfl)
  simp only [Act.put, List.getElem_toArray, List.getElem_cons_zero, List.getElem_cons_succ, List.setIfInBounds_toArray, List.set_cons_zero, List.set_cons_succ]
  refine wpAnyH_take (i := 43) (v := ?_) rfl (by kernel_rfl) (by kernel_rfl) (by kernel_rfl) (fun _ _ _ h => h) (Or.inl ⟨by rfl, ?_⟩) (by assumption) ?_
  rotate_left
  · (intro w hSw; (try dsimp only at hSw); go_simp; try with_reducible rfl)
  simp only [Act.put, List.getElem_toArray, List.getElem_cons_zero, List.getElem_cons_succ, List.setIfInBounds_toArray, List.set_cons_zero, List.set_cons_succ]
  refine wpAnyH_take (i := 44) (v := ?_) rfl (by kernel_rfl) (by kernel_rfl) (by kernel_rfl) (fun _ _ _ h => h) (Or.inl ⟨by rfl, ?_⟩) (by assumption) ?_
  rotate_left
  · (intro w hSw; (try dsimp only at hSw); go_simp; try with_reducible rfl)
  simp only [Act.put, List.getElem_toArray, List.getElem_cons_zero, List.getElem_cons_succ, List.setIfInBounds_toArray, List.set_cons_zero, List.set_cons_succ]
  refine wpAnyH_take (i := 45) (v := ?_) rfl (by kernel_rfl) (by kernel_rfl) (by kernel_rfl) (fun _ _ _ h => h) (Or.inl ⟨by rfl, ?_⟩) (by assumption) ?_
  rotate_left
  · (intro w hSw; (try dsimp only at hSw); go_simp; try with_reducible rfl)
  simp only [Act.put, List.getElem_toArray, List.getElem_cons_zero, List.getElem_cons_succ, List.setIfInBounds_toArray, List.set_cons_zero, List.set_cons_succ]
  refine wpAnyH_take (i := 46) (v := .agg (cellsOf rt).toArray) rfl (by kernel_rfl) (by kernel_rfl) (by kernel_rfl) (fun _ _ _ h => h) (yieldsIf_load_mid (by rfl) 24 (.tmp 10) rfl w4.heap.size 0 rfl (cellsOf rt) _ (fun _ h => h.2.1) Tryd.underlying24 rfl HIR.out) (by assumption) ?_
  simp only [Act.put, List.getElem_toArray, List.getElem_cons_zero, List.getElem_cons_succ, List.setIfInBounds_toArray, List.set_cons_zero, List.set_cons_succ]
  refine wpAnyH_take (i := 47) (v := ?_) rfl (by kernel_rfl) (by kernel_rfl) (by kernel_rfl) (fun _ _ _ h => h) (Or.inl ⟨by rfl, ?_⟩) (by assumption) ?_
  rotate_left
  · (intro w hSw; (try dsimp only at hSw); go_simp; try with_reducible rfl)
  simp only [Act.put, List.getElem_toArray, List.getElem_cons_zero, List.getElem_cons_succ, List.setIfInBounds_toArray, List.set_cons_zero, List.set_cons_succ]
  refine wpAnyH_take (i := 48) (v := ?_) rfl (by kernel_rfl) (by kernel_rfl) (by kernel_rfl) (fun _ _ _ h => h) (Or.inl ⟨by rfl, ?_⟩) (by assumption) ?_
  rotate_left
  · (intro w hSw; (try dsimp only at hSw); go_simp; try with_reducible rfl)
  simp only [Act.put, List.getElem_toArray, List.getElem_cons_zero, List.getElem_cons_succ, List.setIfInBounds_toArray, List.set_cons_zero, List.set_cons_succ]
  refine wpAnyH_take (i := 49) (v := ?_) rfl (by kernel_rfl) (by kernel_rfl) (by kernel_rfl) (fun _ _ _ h => h) (Or.inl ⟨by rfl, ?_⟩) (by assumption) ?_
  rotate_left
  · (intro w hSw; (try dsimp only at hSw); go_simp; try with_reducible rfl)
  simp only [Act.put, List.getElem_toArray, List.getElem_cons_zero, List.getElem_cons_succ, List.setIfInBounds_toArray, List.set_cons_zero, List.set_cons_succ]
  refine wpAnyH_take (i := 50) (v := ?_) rfl (by kernel_rfl) (by kernel_rfl) (by kernel_rfl) (fun _ _ _ h => h) (Or.inl ⟨by rfl, ?_⟩) (by assumption) ?_
  rotate_left
  · (intro w hSw; (try dsimp only at hSw); go_simp; try with_reducible rfl)
  simp only [Act.put, List.getElem_toArray, List.getElem_cons_zero, List.getElem_cons_succ, List.setIfInBounds_toArray, List.set_cons_zero, List.set_cons_succ]
  refine wpAnyH_take (i := 51) (v := ?_) rfl (by kernel_rfl) (by kernel_rfl) (by kernel_rfl) (fun _ _ _ h => h) (Or.inl ⟨by rfl, ?_⟩) (by assumption) ?_
  rotate_left
  · (intro w hSw; (try dsimp only at hSw); go_simp; try with_reducible rfl)
  simp only [Act.put, List.getElem_toArray, List.getElem_cons_zero, List.getElem_cons_succ, List.setIfInBounds_toArray, List.set_cons_zero, List.set_cons_succ]
  refine wpAnyH_ready (rs := [52]) (by kernel_rfl) (by simp) ?_
  refine AllReadyH.cons rfl (fun K hK => ?_) AllReadyH.nil
  go_simp
  refine (HQ6.out _ HC5.out).mono ?_
  rintro e y6 ⟨rfl, hy6⟩
  have HC6 : Hid (Below w5.heap.size w5 y6) := HC5.out.trans (hy6.mono HC5.out.size)
  clear hy6
  try unfold dv
  go_wp2_with fail
  refine hK.out _ _ (HS.out _ HC6.out) (fun hHeld2 => ?_)
  clear hK K
  refine wpAnyH_take (i := 53) (v := ?_) rfl (by kernel_rfl) (by kernel_rfl) (by kernel_rfl) (fun _ _ _ h => h) (Or.inl ⟨by rfl, ?_⟩) (by assumption) ?_
  rotate_left
  · (intro w hSw; (try dsimp only at hSw); go_simp; try with_reducible rfl)
  simp only [Act.put, List.getElem_toArray, List.getElem_cons_zero, List.getElem_cons_succ, List.setIfInBounds_toArray, List.set_cons_zero, List.set_cons_succ]
  refine wpAnyH_take (i := 54) (v := ?_) rfl (by kernel_rfl) (by kernel_rfl) (by kernel_rfl) (fun _ _ _ h => h) (Or.inl ⟨by rfl, ?_⟩) (by assumption) ?_
  rotate_left
  · (intro w hSw; (try dsimp only at hSw); go_simp; try with_reducible rfl)
  simp only [Act.put, List.getElem_toArray, List.getElem_cons_zero, List.getElem_cons_succ, List.setIfInBounds_toArray, List.set_cons_zero, List.set_cons_succ]
  refine wpAnyH_take (i := 55) (v := ?_) rfl (by kernel_rfl) (by kernel_rfl) (by kernel_rfl) (fun _ _ _ h => h) (Or.inl ⟨by rfl, ?_⟩) (by assumption) ?_
  rotate_left
  · (intro w hSw; (try dsimp only at hSw); go_simp; try with_reducible rfl)
  simp only [Act.put, List.getElem_toArray, List.getElem_cons_zero, List.getElem_cons_succ, List.setIfInBounds_toArray, List.set_cons_zero, List.set_cons_succ]
  refine wpAnyH_done (by kernel_rfl) ?_ _
  clear hS hHeld2
  go_wp2_with fail
  go_ret
  exact ⟨rfl, HBW.out _ (HB35.out.trans (HC6.out.mono HB35.out.size))⟩
end Go.Proofs.YtaebpnednhkfhaaDoor
