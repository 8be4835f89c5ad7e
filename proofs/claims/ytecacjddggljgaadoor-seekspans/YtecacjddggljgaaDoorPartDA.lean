/-
  What clash's leafOf and nodeAbove answer: contracts over this translation.
-/
import Derived.Test.YtecacjddggljgaaDoorPartCJ
namespace Go.Proofs.YtecacjddggljgaaDoor.Sm
open Go.RowKit
/-- The cells of what is known of a leaf or node: its text, and its sum. -/
def kc (ao : Option Addr) (n c : Nat) (d : List UInt8) : Array Value := (Value.slice ao n c :: cellsOf d).toArray
theorem kc_size (ao : Option Addr) (n c : Nat) {d : List UInt8} (h : d.length = 32) : (kc ao n c d).size = 33 := by
  unfold kc; rw [List.size_toArray, List.length_cons, cellsOf_length, h]
theorem kc_all (ao : Option Addr) (n c : Nat) (d : List UInt8) : (kc ao n c d).all (·.oneCell') = true := by
  unfold kc
  refine all_oneCell_toArray ?_
  intro v hv
  rcases List.mem_cons.1 hv with rfl | h
  · rfl
  · exact cellsOf_one _ v h
theorem size134 : (Tryd.prog.info? 155).map (·.size) = some 33 := by kernel_rfl
theorem built134v (ao : Option Addr) (n c : Nat) (x0 x1 x2 x3 x4 x5 x6 x7 x8 x9 x10 x11 x12 x13 x14 x15 x16 x17 x18 x19 x20 x21 x22 x23 x24 x25 x26 x27 x28 x29 x30 x31 : UInt8) : Tryd.prog.built 155 [(0, .slice ao n c), (1, .agg (cellsOf [x0, x1, x2, x3, x4, x5, x6, x7, x8, x9, x10, x11, x12, x13, x14, x15, x16, x17, x18, x19, x20, x21, x22, x23, x24, x25, x26, x27, x28, x29, x30, x31]).toArray)] = some (kc ao n c [x0, x1, x2, x3, x4, x5, x6, x7, x8, x9, x10, x11, x12, x13, x14, x15, x16, x17, x18, x19, x20, x21, x22, x23, x24, x25, x26, x27, x28, x29, x30, x31]) := by kernel_rfl
theorem built134sv (x0 x1 x2 x3 x4 x5 x6 x7 x8 x9 x10 x11 x12 x13 x14 x15 x16 x17 x18 x19 x20 x21 x22 x23 x24 x25 x26 x27 x28 x29 x30 x31 : UInt8) : Tryd.prog.built 155 [(1, .agg (cellsOf [x0, x1, x2, x3, x4, x5, x6, x7, x8, x9, x10, x11, x12, x13, x14, x15, x16, x17, x18, x19, x20, x21, x22, x23, x24, x25, x26, x27, x28, x29, x30, x31]).toArray)] = some (kc none 0 0 [x0, x1, x2, x3, x4, x5, x6, x7, x8, x9, x10, x11, x12, x13, x14, x15, x16, x17, x18, x19, x20, x21, x22, x23, x24, x25, x26, x27, x28, x29, x30, x31]) := by kernel_rfl
theorem built134 (ao : Option Addr) (n c : Nat) : (d : List UInt8) → d.length = 32 → Tryd.prog.built 155 [(0, .slice ao n c), (1, .agg (cellsOf d).toArray)] = some (kc ao n c d)
  | [x0, x1, x2, x3, x4, x5, x6, x7, x8, x9, x10, x11, x12, x13, x14, x15, x16, x17, x18, x19, x20, x21, x22, x23, x24, x25, x26, x27, x28, x29, x30, x31], _ => built134v ao n c x0 x1 x2 x3 x4 x5 x6 x7 x8 x9 x10 x11 x12 x13 x14 x15 x16 x17 x18 x19 x20 x21 x22 x23 x24 x25 x26 x27 x28 x29 x30 x31
theorem built134s : (d : List UInt8) → d.length = 32 → Tryd.prog.built 155 [(1, .agg (cellsOf d).toArray)] = some (kc none 0 0 d)
  | [x0, x1, x2, x3, x4, x5, x6, x7, x8, x9, x10, x11, x12, x13, x14, x15, x16, x17, x18, x19, x20, x21, x22, x23, x24, x25, x26, x27, x28, x29, x30, x31], _ => built134sv x0 x1 x2 x3 x4 x5 x6 x7 x8 x9 x10 x11 x12 x13 x14 x15 x16 x17 x18 x19 x20 x21 x22 x23 x24 x25 x26 x27 x28 x29 x30 x31
theorem run134 (ao : Option Addr) (n c : Nat) (d : List UInt8) (h : d.length = 32) (w : World) : (Instr.build 155 #[(0, .slice ao n c), (1, .agg (cellsOf d).toArray)]).run Tryd.prog w = .ok (.agg (kc ao n c d)) w := run_build w 155 _ _ (built134 ao n c d h)
theorem run134s (d : List UInt8) (h : d.length = 32) (w : World) : (Instr.build 155 #[(1, .agg (cellsOf d).toArray)]).run Tryd.prog w = .ok (.agg (kc none 0 0 d)) w := run_build w 155 _ _ (built134s d h)
/-- A text that is there. -/
def TxV (w : World) (ao : Option Addr) (n c : Nat) (bs : List UInt8) : Prop := Bytes w ao n bs ∧ (ao = none → c = 0) ∧ n ≤ c ∧ c ≤ 9223372036854775807 ∧ n ≤ 140737488355328
def TxB (base : Nat) (ao : Option Addr) : Prop := ∀ x, ao = some x → base ≤ x.block
theorem TxB.mono {a b : Nat} {ao : Option Addr} (h : TxB b ao) (hab : a ≤ b) : TxB a ao := fun x hx => Nat.le_trans hab (h x hx)
theorem TxV.below {w w' : World} {B n c : Nat} {ao : Option Addr} {bs : List UInt8} (h : TxV w ao n c bs) (hb : Below B w w') (hB : w.heap.size ≤ B) : TxV w' ao n c bs := ⟨bytes_kept h.1 hb hB, h.2⟩
theorem TxV.far {w : World} {g n c : Nat} {ao : Option Addr} {bs : List UInt8} {cs : Array Value} (h : TxV w ao n c bs) (hg : ∀ x, ao = some x → x.block ≠ g) : TxV (w.setRow g cs) ao n c bs :=
  ⟨⟨h.1.1, fun i u hu => by
    obtain ⟨x, hx, hc⟩ := h.1.2 i u hu
    exact ⟨x, hx, cell_row_far hc (by unfold Addr.add; split <;> exact hg x hx)⟩⟩, h.2⟩
theorem txv_nil (w : World) : TxV w none 0 0 [] := ⟨⟨rfl, fun i c h => by simp at h⟩, fun _ => rfl, Nat.le_refl _, by omega, by omega⟩
theorem yieldsIf_build {ops : Array Oper} {S : World → Prop} {op : Oper} {a : Act} (hw : Region.wanted op (yielded ops a.tmps) = true) (t : TypeId) (parts : Array (Nat × Operand)) (ho : op.op = .build t parts) (cells : Array Value) (vs : List (Nat × Value)) (hb : Tryd.prog.built t vs = some cells) (hv : (parts.toList.map fun (y : Nat × Operand) => (y.1, a.eval y.2)) = vs) : YieldsIf Tryd.prog ops S op (.agg cells) a :=
  .inl ⟨hw, fun w _ => by
    subst hv
    rw [← Array.toList_map] at hb
    unfold execOp
    simp only [ho, Sem.run_bind, run_build w t _ cells hb, Result.andThen_ok, Sem.run_pure]⟩
set_option maxRecDepth 100000 in
set_option maxHeartbeats 2000000 in
theorem leafOf_any (z : Int) (ao : Option Addr) (n c : Nat) (bs : List UInt8) (w : World) (hb : Bytes w ao n bs) (h0 : ao = none → c = 0) (hn : n ≤ 140737488355000) (hK : WW w 1 ks) (hz0 : 1 < w.heap.size) (hz : -9223372036854775808 ≤ z ∧ z ≤ 9223372036854775807) :
    Calls Tryd.prog 99 #[.agg #[.int .i64 z], .slice ao n c] w fun e w' => ∃ xo tn tc, e = .returned (.agg (kc xo tn tc (leafD z bs))) ∧ TxV w' xo tn tc (0 :: bs) ∧ TxB w.heap.size xo ∧ Below w.heap.size w w' := by
  have HB : Hid (Bytes w ao n bs) := hb
  have HN : Hid (n ≤ 140737488355000) := hn
  have H0 : Hid (ao = none → c = 0) := h0
  have HLF : Hid (∀ W, Below w.heap.size w W → Calls Tryd.prog 85 #[.agg #[.int .i64 z], .slice ao n c] W fun e w' => e = .returned (dv (leafD z bs)) ∧ Below W.heap.size W w') := fun W hW => leaf_any z ao n c bs W (bytes_kept hb hW (Nat.le_refl _)) h0 hn (hK.below hW hz0) (Nat.lt_of_lt_of_le hz0 hW.size) hz
  obtain ⟨d, HD⟩ : ∃ d, Hid (leafD z bs = d) := ⟨_, rfl⟩
  have HDL : Hid (d.length = 32) := by show _ = _; rw [← HD.out]; exact leafD_length z bs
  rw [HD.out] at HLF ⊢
  clear hb hK h0 hz hn HD
  go_enter Tryd.func99, Tryd.ntmps99
  go_wp2_with fail
  obtain ⟨W0, HW0⟩ : ∃ W, Hid ((w.alloc (Obj.cells #[Value.int IntKind.i64 z] 26)).alloc (Obj.cells #[Value.slice none 0 0, Value.int IntKind.u8 0, Value.int IntKind.u8 0, Value.int IntKind.u8 0, Value.int IntKind.u8 0, Value.int IntKind.u8 0, Value.int IntKind.u8 0, Value.int IntKind.u8 0, Value.int IntKind.u8 0, Value.int IntKind.u8 0, Value.int IntKind.u8 0, Value.int IntKind.u8 0, Value.int IntKind.u8 0, Value.int IntKind.u8 0, Value.int IntKind.u8 0, Value.int IntKind.u8 0, Value.int IntKind.u8 0, Value.int IntKind.u8 0, Value.int IntKind.u8 0, Value.int IntKind.u8 0, Value.int IntKind.u8 0, Value.int IntKind.u8 0, Value.int IntKind.u8 0, Value.int IntKind.u8 0, Value.int IntKind.u8 0, Value.int IntKind.u8 0, Value.int IntKind.u8 0, Value.int IntKind.u8 0, Value.int IntKind.u8 0, Value.int IntKind.u8 0, Value.int IntKind.u8 0, Value.int IntKind.u8 0, Value.int IntKind.u8 0] 155) = W) := ⟨_, rfl⟩
  have HF := frame2 w (Obj.cells #[Value.int IntKind.i64 z] 26) #[Value.slice none 0 0, Value.int IntKind.u8 0, Value.int IntKind.u8 0, Value.int IntKind.u8 0, Value.int IntKind.u8 0, Value.int IntKind.u8 0, Value.int IntKind.u8 0, Value.int IntKind.u8 0, Value.int IntKind.u8 0, Value.int IntKind.u8 0, Value.int IntKind.u8 0, Value.int IntKind.u8 0, Value.int IntKind.u8 0, Value.int IntKind.u8 0, Value.int IntKind.u8 0, Value.int IntKind.u8 0, Value.int IntKind.u8 0, Value.int IntKind.u8 0, Value.int IntKind.u8 0, Value.int IntKind.u8 0, Value.int IntKind.u8 0, Value.int IntKind.u8 0, Value.int IntKind.u8 0, Value.int IntKind.u8 0, Value.int IntKind.u8 0, Value.int IntKind.u8 0, Value.int IntKind.u8 0, Value.int IntKind.u8 0, Value.int IntKind.u8 0, Value.int IntKind.u8 0, Value.int IntKind.u8 0, Value.int IntKind.u8 0, Value.int IntKind.u8 0] 155
  rw [HW0.out] at HF ⊢
  have HS0 : Hid (∀ W, Below W0.heap.size W0 W → W.cell? ⟨w.heap.size, 0, none⟩ = some (.int .i64 z)) := fun W hW => bel_cell2 hW (Nat.le_refl _) (by rw [cell_of_row W0 _ 0 _ _ _ HF.1]; rfl)
  have HFH : Hid _ := HF
  clear HF HW0
  refine wp_region_held_drew (S := fun w' => w'.cell? ⟨w.heap.size, 0, none⟩ = some (.int .i64 z)) (by kernel_rfl) (HS0.out _ (Below.drew (Below.refl _ _))) (fun hS => ?_)
  refine wpAnyH_take (i := 1) (v := ?_) rfl (by kernel_rfl) (by kernel_rfl) (by kernel_rfl) (fun _ _ _ h => h) (Or.inl ⟨by rfl, ?_⟩) (by assumption) ?_
  rotate_left
  · (intro w hSw; (try dsimp only at hSw); go_simp; try with_reducible rfl)
  simp only [Act.put, List.getElem_toArray, List.getElem_cons_zero, List.getElem_cons_succ, List.setIfInBounds_toArray, List.set_cons_zero, List.set_cons_succ]
  refine wpAnyH_take (i := 3) (v := ?_) rfl (by kernel_rfl) (by kernel_rfl) (by kernel_rfl) (fun _ _ _ h => h) (Or.inl ⟨by rfl, ?_⟩) (by assumption) ?_
  rotate_left
  · (intro w hSw; (try dsimp only at hSw); go_simp; try with_reducible rfl)
  simp only [Act.put, List.getElem_toArray, List.getElem_cons_zero, List.getElem_cons_succ, List.setIfInBounds_toArray, List.set_cons_zero, List.set_cons_succ]
  refine wpAnyH_take (i := 4) (v := ?_) rfl (by kernel_rfl) (by kernel_rfl) (by kernel_rfl) (fun _ _ _ h => h) (Or.inl ⟨by rfl, ?_⟩) (by assumption) ?_
  rotate_left
  · (intro w hSw; (try dsimp only at hSw); go_simp; try with_reducible rfl)
  simp only [Act.put, List.getElem_toArray, List.getElem_cons_zero, List.getElem_cons_succ, List.setIfInBounds_toArray, List.set_cons_zero, List.set_cons_succ]
  refine wpAnyH_ready (rs := [0]) (by kernel_rfl) (by simp) ?_
  refine AllReadyH.cons rfl (fun K hK => ?_) AllReadyH.nil
  go_simp
  refine hK.out _ _ (HS0.out _ ((Below.drew (Below.refl _ _)).alloc (Nat.le_refl _) _)) (fun hHeld2 => ?_)
  clear hK K
  refine wpAnyH_ready (rs := [2]) (by kernel_rfl) (by simp) ?_
  refine AllReadyH.cons rfl (fun K hK => ?_) AllReadyH.nil
  refine step_append_bytes _ rfl (.tmp 5) (.tmp 6) rfl W0.heap.size _ 1 [0] rfl (own_one W0.drew 0) (by simp) ao n c bs rfl (bytes_kept HB.out (HFH.out.2.2.1.trans ((Below.drew (Below.refl _ _)).alloc (by simp [HFH.out.2.2.2]) _)) (Nat.le_refl _)) H0.out (by have := HN.out; omega) ?_
  intro v2 w2 hown2 hb2
  have HB2 : Hid (Below W0.heap.size W0 w2) := ((Below.drew (Below.refl _ _)).alloc (Nat.le_refl _) _).trans hb2
  obtain ⟨xo, tc, rfl, q1, q2, q3, q4, q5, q6⟩ := own_bytes hown2
  have hlen : ([0] ++ bs).length = n + 1 := by have := HB.out.1; simp; omega
  rw [hlen] at q1 q3 ⊢
  have HTX : Hid (TxV w2 xo (n + 1) tc (0 :: bs)) := ⟨q1, q2, q3, by unfold maxLen at q4; omega, by have := HN.out; omega⟩
  have HFR : Hid (∀ x, xo = some x → W0.heap.size ≤ x.block) := fun x hx => (q6 x hx).1
  obtain ⟨kk, HKK⟩ : ∃ k, Hid (kc xo (n + 1) tc d = k) := ⟨_, rfl⟩
  have HBD := built134 xo (n + 1) tc d HDL.out
  rw [HKK.out] at HBD
  have HBD : Hid _ := HBD
  refine hK.out _ _ (HS0.out _ HB2.out) (fun hHeld2 => ?_)
  clear hK K hown2 hb2 q1 q2 q3 q4 q5 q6 hlen
  simp only [Act.put, List.getElem_toArray, List.getElem_cons_zero, List.getElem_cons_succ, List.setIfInBounds_toArray, List.set_cons_zero, List.set_cons_succ]
  refine wpAnyH_ready (rs := [5]) (by kernel_rfl) (by simp) ?_
  refine AllReadyH.cons rfl (fun K hK => ?_) AllReadyH.nil
  go_simp
  refine (HLF.out _ (HFH.out.2.2.1.trans (HB2.out.mono (by rw [HFH.out.2.2.2]; omega)))).mono ?_
  rintro e w3 ⟨rfl, hb3⟩
  have HB3 : Hid (Below W0.heap.size W0 w3) := HB2.out.trans (hb3.mono HB2.out.size)
  have HTX3 : Hid (TxV w3 xo (n + 1) tc (0 :: bs)) := HTX.out.below hb3 (Nat.le_refl _)
  have HRES : Hid (w3.heap[w.heap.size + 1]? = some (.cells #[Value.slice none 0 0, Value.int IntKind.u8 0, Value.int IntKind.u8 0, Value.int IntKind.u8 0, Value.int IntKind.u8 0, Value.int IntKind.u8 0, Value.int IntKind.u8 0, Value.int IntKind.u8 0, Value.int IntKind.u8 0, Value.int IntKind.u8 0, Value.int IntKind.u8 0, Value.int IntKind.u8 0, Value.int IntKind.u8 0, Value.int IntKind.u8 0, Value.int IntKind.u8 0, Value.int IntKind.u8 0, Value.int IntKind.u8 0, Value.int IntKind.u8 0, Value.int IntKind.u8 0, Value.int IntKind.u8 0, Value.int IntKind.u8 0, Value.int IntKind.u8 0, Value.int IntKind.u8 0, Value.int IntKind.u8 0, Value.int IntKind.u8 0, Value.int IntKind.u8 0, Value.int IntKind.u8 0, Value.int IntKind.u8 0, Value.int IntKind.u8 0, Value.int IntKind.u8 0, Value.int IntKind.u8 0, Value.int IntKind.u8 0, Value.int IntKind.u8 0] 155 (0, 0))) := (HB3.out.block _ (by rw [HFH.out.2.2.2]; omega)).trans HFH.out.2.1
  unfold dv
  go_wp2_with fail
  refine hK.out _ _ (HS0.out _ HB3.out) (fun hHeld2 => ?_)
  clear hK K hb3 HTX
  refine wpAnyH_take (i := 6) (v := .agg kk) rfl (by kernel_rfl) (by kernel_rfl) (by kernel_rfl) (fun _ _ _ h => h) (yieldsIf_build (by rfl) 155 #[(0, .tmp 7), (1, .tmp 10)] rfl kk _ HBD.out rfl) (by assumption) ?_
  simp only [Act.put, List.getElem_toArray, List.getElem_cons_zero, List.getElem_cons_succ, List.setIfInBounds_toArray, List.set_cons_zero, List.set_cons_succ]
  have HKS : Hid (kk.size = 33) := by show _ = _; rw [← HKK.out]; exact kc_size _ _ _ HDL.out
  have HKA : Hid (kk.all (·.oneCell') = true) := by show _ = _; rw [← HKK.out]; exact kc_all _ _ _ _
  refine wpAnyH_ready (rs := [7]) (by kernel_rfl) (by simp) ?_
  refine AllReadyH.cons rfl (fun K hK => ?_) AllReadyH.nil
  rw [if_pos (by rfl)]
  refine wp_store_row 155 (.tmp 4) (.tmp 11) rfl (w.heap.size + 1) kk rfl rfl 155 _ HRES.out (by rw [size134, HKS.out]) (by rw [HKS.out]; rfl) HKA.out ?_
  refine hK.out _ _ (cell_row_far (HS0.out _ HB3.out) (show w.heap.size ≠ w.heap.size + 1 by omega)) (fun hHeld2 => ?_)
  clear hK K
  refine wpAnyH_done (by kernel_rfl) ?_ _
  clear hS hHeld2
  go_wp2_with fail
  refine bodyPost_ret (results_cell_row rfl _ _ (w.heap.size + 1) 155 kk (0, 0) _ rfl (setRow_heap _ _ _ _ _ _ HRES.out) Tryd.underlying155 rfl (by rw [size134, HKS.out])) rfl ?_
  refine ⟨xo, n + 1, tc, by rw [HKK.out], ?_, fun x hx => by have := HFR.out x hx; have := HFH.out.2.2.2; omega, below_row (HFH.out.2.2.1.trans (HB3.out.mono (by rw [HFH.out.2.2.2]; omega))) (by omega) _⟩
  exact HTX3.out.far (fun x hx => by have := HFR.out x hx; have := HFH.out.2.2.2; omega)
theorem kc_row {w : World} {g : Nat} {ao : Option Addr} {n c : Nat} {d : List UInt8} {t : TypeId} {fr : Nat × Nat} (h : w.heap[g]? = some (.cells (kc ao n c d) t fr)) : w.cell? ⟨g, 0, none⟩ = some (.slice ao n c) ∧ w.rangeAt g 1 (cellsOf d) := by
  refine ⟨by rw [cell_of_row _ _ 0 _ _ _ h]; rfl, fun j v hv => ?_⟩
  rw [cell_of_row _ _ _ _ _ _ h, kc, Nat.add_comm 1 j, List.getElem?_toArray, List.getElem?_cons_succ]
  exact hv
theorem range_bytes {w : World} {g o : Nat} {d : List UInt8} (h : w.rangeAt g o (cellsOf d)) : Bytes w (some ⟨g, o, none⟩) d.length d := by
  refine ⟨rfl, fun i c hi => ⟨_, rfl, ?_⟩⟩
  rw [Addr.add_lit]
  exact h i _ (by simp [cellsOf, hi])
set_option maxRecDepth 100000 in
set_option maxHeartbeats 2000000 in
theorem nodeAbove_any (z : Int) (lo : Option Addr) (ln lc : Nat) (l : List UInt8) (ro : Option Addr) (rn rc : Nat) (r : List UInt8) (w : World) (hl : l.length = 32) (hr : r.length = 32) (hK : WW w 1 ks) (hz0 : 1 < w.heap.size) (hz : -9223372036854775808 ≤ z ∧ z ≤ 9223372036854775807) :
    Calls Tryd.prog 100 #[.agg #[.int .i64 z], .agg (kc lo ln lc l), .agg (kc ro rn rc r)] w fun e w' => ∃ xo tn tc, e = .returned (.agg (kc xo tn tc (nodeD z l r))) ∧ TxV w' xo tn tc (1 :: (l ++ r)) ∧ TxB w.heap.size xo ∧ Below w.heap.size w w' := by
  have HND : Hid (∀ W, Below w.heap.size w W → Calls Tryd.prog 87 #[.agg #[.int .i64 z], dv l, dv r] W fun e w' => e = .returned (dv (nodeD z l r)) ∧ Below W.heap.size W w') := fun W hW => node_any z l r W hl hr (hK.below hW hz0) (Nat.lt_of_lt_of_le hz0 hW.size) hz
  obtain ⟨d, HD⟩ : ∃ d, Hid (nodeD z l r = d) := ⟨_, rfl⟩
  have HDL : Hid (d.length = 32) := by show _ = _; rw [← HD.out]; exact nodeD_length z l r
  rw [HD.out] at HND ⊢
  have HL : Hid (l.length = 32) := hl
  have HR : Hid (r.length = 32) := hr
  clear hK hz HD hl hr
  unfold dv at HND
  obtain ⟨cl, HCL⟩ : ∃ c, Hid (kc lo ln lc l = c) := ⟨_, rfl⟩
  obtain ⟨cr, HCR⟩ : ∃ c, Hid (kc ro rn rc r = c) := ⟨_, rfl⟩
  rw [HCL.out, HCR.out]
  go_enter Tryd.func100, Tryd.ntmps100
  go_upto_region 1 with fail
  obtain ⟨W0, HW0⟩ : ∃ W, Hid (W = (((w.alloc (Obj.cells #[Value.int IntKind.i64 z] 26)).alloc (Obj.cells cl 155)).alloc (Obj.cells cr 155)).alloc (Obj.cells #[Value.slice none 0 0, Value.int IntKind.u8 0, Value.int IntKind.u8 0, Value.int IntKind.u8 0, Value.int IntKind.u8 0, Value.int IntKind.u8 0, Value.int IntKind.u8 0, Value.int IntKind.u8 0, Value.int IntKind.u8 0, Value.int IntKind.u8 0, Value.int IntKind.u8 0, Value.int IntKind.u8 0, Value.int IntKind.u8 0, Value.int IntKind.u8 0, Value.int IntKind.u8 0, Value.int IntKind.u8 0, Value.int IntKind.u8 0, Value.int IntKind.u8 0, Value.int IntKind.u8 0, Value.int IntKind.u8 0, Value.int IntKind.u8 0, Value.int IntKind.u8 0, Value.int IntKind.u8 0, Value.int IntKind.u8 0, Value.int IntKind.u8 0, Value.int IntKind.u8 0, Value.int IntKind.u8 0, Value.int IntKind.u8 0, Value.int IntKind.u8 0, Value.int IntKind.u8 0, Value.int IntKind.u8 0, Value.int IntKind.u8 0, Value.int IntKind.u8 0] 155)) := ⟨_, rfl⟩
  have HF := frame4 w (Obj.cells #[Value.int IntKind.i64 z] 26) (Obj.cells cl 155) (Obj.cells cr 155) #[Value.slice none 0 0, Value.int IntKind.u8 0, Value.int IntKind.u8 0, Value.int IntKind.u8 0, Value.int IntKind.u8 0, Value.int IntKind.u8 0, Value.int IntKind.u8 0, Value.int IntKind.u8 0, Value.int IntKind.u8 0, Value.int IntKind.u8 0, Value.int IntKind.u8 0, Value.int IntKind.u8 0, Value.int IntKind.u8 0, Value.int IntKind.u8 0, Value.int IntKind.u8 0, Value.int IntKind.u8 0, Value.int IntKind.u8 0, Value.int IntKind.u8 0, Value.int IntKind.u8 0, Value.int IntKind.u8 0, Value.int IntKind.u8 0, Value.int IntKind.u8 0, Value.int IntKind.u8 0, Value.int IntKind.u8 0, Value.int IntKind.u8 0, Value.int IntKind.u8 0, Value.int IntKind.u8 0, Value.int IntKind.u8 0, Value.int IntKind.u8 0, Value.int IntKind.u8 0, Value.int IntKind.u8 0, Value.int IntKind.u8 0, Value.int IntKind.u8 0] 155 W0 HW0.out
  rw [← HW0.out]
  have HFH : Hid _ := HF
  clear HF HW0
  have HRL : Hid (W0.rangeAt (w.heap.size + 1) 1 (cellsOf l)) := (kc_row (by rw [HCL.out]; exact HFH.out.2.1)).2
  have HRR : Hid (W0.rangeAt (w.heap.size + 1 + 1) 1 (cellsOf r)) := (kc_row (by rw [HCR.out]; exact HFH.out.2.2.1)).2
  have HBl : Hid (Bytes W0 (some ⟨w.heap.size + 1, 1, none⟩) 32 l) := by have := range_bytes HRL.out; rw [HL.out] at this; exact this
  have HBr : Hid (Bytes W0 (some ⟨w.heap.size + 1 + 1, 1, none⟩) 32 r) := by have := range_bytes HRR.out; rw [HR.out] at this; exact this
  have HO1 : Hid ((W0.alloc (.cells #[.int .u8 ((1 : UInt8).toNat : Int)] 5)).ownsRow W0.heap.size 5 1 (.slice (some ⟨W0.heap.size, 0, none⟩) 1 1) 1 (cellsOf [1])) := own_one W0 1
  have HIL : Hid ((Tryd.prog.info? 46).map (·.size) = some (cellsOf l).length) := by show _ = _; rw [size24, cellsOf_length, HL.out]
  have HIR : Hid ((Tryd.prog.info? 46).map (·.size) = some (cellsOf r).length) := by show _ = _; rw [size24, cellsOf_length, HR.out]
  go_wp2_with (at_builtin; refine wpList_append_bytes _ rfl (.tmp 8) (.tmp 10) rfl W0.heap.size _ 1 [1] rfl HO1.out (by simp) (some ⟨w.heap.size + 1, 1, none⟩) 32 32 l rfl (bytes_kept HBl.out (bel_alloc W0 _) (Nat.le_refl _)) (fun h => by cases h) (by omega) ?_)
  intro v1 w1 hown1 hb1
  have HB1 : Hid (Below W0.heap.size W0 w1) := (bel_alloc W0 _).trans hb1
  have hl1 : l.length + 1 = 33 := by have := HL.out; omega
  rw [hl1] at hown1
  have HOW : Hid _ := hown1
  have HS0 : Hid (∀ W, Below W0.heap.size W0 W → W.cell? ⟨w.heap.size, 0, none⟩ = some (.int .i64 z) ∧ W.rangeAt (w.heap.size + 1) 1 (cellsOf l) ∧ W.rangeAt (w.heap.size + 1 + 1) 1 (cellsOf r)) := fun W hW => ⟨bel_cell2 hW (Nat.le_refl _) (by rw [cell_of_row W0 _ 0 _ _ _ HFH.out.1]; rfl), range_bel HRL.out hW (Nat.le_refl _), range_bel HRR.out hW (Nat.le_refl _)⟩
  clear hown1 hb1 HO1 hl1
  go_wp2_with fail
  refine wp_region_held_drew (S := fun W => W.cell? ⟨w.heap.size, 0, none⟩ = some (.int .i64 z) ∧ W.rangeAt (w.heap.size + 1) 1 (cellsOf l) ∧ W.rangeAt (w.heap.size + 1 + 1) 1 (cellsOf r)) (by kernel_rfl) (HS0.out _ (Below.drew HB1.out)) (fun hS => ?_)
  refine wpAnyH_take (i := 0) (v := ?_) rfl (by kernel_rfl) (by kernel_rfl) (by kernel_rfl) (fun _ _ _ h => h) (Or.inl ⟨by rfl, ?_⟩) (by assumption) ?_
  rotate_left
  · (intro w hSw; (try dsimp only at hSw); go_simp; try with_reducible rfl)
  simp only [Act.put, List.getElem_toArray, List.getElem_cons_zero, List.setIfInBounds_toArray, List.set_cons_zero, List.set_cons_succ]
  refine wpAnyH_take (i := 1) (v := ?_) rfl (by kernel_rfl) (by kernel_rfl) (by kernel_rfl) (fun _ _ _ h => h) (Or.inl ⟨by rfl, ?_⟩) (by assumption) ?_
  rotate_left
  · (intro w hSw; (try dsimp only at hSw); go_simp; try with_reducible rfl)
  simp only [Act.put, List.getElem_toArray, List.getElem_cons_zero, List.getElem_cons_succ, List.setIfInBounds_toArray, List.set_cons_zero, List.set_cons_succ]
  refine wpAnyH_take (i := 2) (v := ?_) rfl (by kernel_rfl) (by kernel_rfl) (by kernel_rfl) (fun _ _ _ h => h) (Or.inl ⟨by rfl, ?_⟩) (by assumption) ?_
  rotate_left
  · (intro w hSw; (try dsimp only at hSw); go_simp; try with_reducible rfl)
  simp only [Act.put, List.getElem_toArray, List.getElem_cons_zero, List.getElem_cons_succ, List.setIfInBounds_toArray, List.set_cons_zero, List.set_cons_succ]
  refine wpAnyH_take (i := 4) (v := ?_) rfl (by kernel_rfl) (by kernel_rfl) (by kernel_rfl) (fun _ _ _ h => h) (Or.inl ⟨by rfl, ?_⟩) (by assumption) ?_
  rotate_left
  · (intro w hSw; (try dsimp only at hSw); go_simp; try with_reducible rfl)
  simp only [Act.put, List.getElem_toArray, List.getElem_cons_zero, List.getElem_cons_succ, List.setIfInBounds_toArray, List.set_cons_zero, List.set_cons_succ]
  refine wpAnyH_take (i := 5) (v := ?_) rfl (by kernel_rfl) (by kernel_rfl) (by kernel_rfl) (fun _ _ _ h => h) (Or.inl ⟨by rfl, ?_⟩) (by assumption) ?_
  rotate_left
  · (intro w hSw; (try dsimp only at hSw); go_simp; try with_reducible rfl)
  simp only [Act.put, List.getElem_toArray, List.getElem_cons_zero, List.getElem_cons_succ, List.setIfInBounds_toArray, List.set_cons_zero, List.set_cons_succ]
  refine wpAnyH_take (i := 6) (v := .agg (cellsOf l).toArray) rfl (by kernel_rfl) (by kernel_rfl) (by kernel_rfl) (fun _ _ _ h => h) (yieldsIf_load_mid (by rfl) 46 (.tmp 17) rfl (w.heap.size + 1) 1 rfl (cellsOf l) _ (fun _ h => h.2.1) Tryd.underlying46 rfl HIL.out) (by assumption) ?_
  simp only [Act.put, List.getElem_toArray, List.getElem_cons_zero, List.getElem_cons_succ, List.setIfInBounds_toArray, List.set_cons_zero, List.set_cons_succ]
  refine wpAnyH_take (i := 7) (v := ?_) rfl (by kernel_rfl) (by kernel_rfl) (by kernel_rfl) (fun _ _ _ h => h) (Or.inl ⟨by rfl, ?_⟩) (by assumption) ?_
  rotate_left
  · (intro w hSw; (try dsimp only at hSw); go_simp; try with_reducible rfl)
  simp only [Act.put, List.getElem_toArray, List.getElem_cons_zero, List.getElem_cons_succ, List.setIfInBounds_toArray, List.set_cons_zero, List.set_cons_succ]
  refine wpAnyH_take (i := 8) (v := .agg (cellsOf r).toArray) rfl (by kernel_rfl) (by kernel_rfl) (by kernel_rfl) (fun _ _ _ h => h) (yieldsIf_load_mid (by rfl) 46 (.tmp 19) rfl (w.heap.size + 1 + 1) 1 rfl (cellsOf r) _ (fun _ h => h.2.2) Tryd.underlying46 rfl HIR.out) (by assumption) ?_
  simp only [Act.put, List.getElem_toArray, List.getElem_cons_zero, List.getElem_cons_succ, List.setIfInBounds_toArray, List.set_cons_zero, List.set_cons_succ]
  refine wpAnyH_ready (rs := [3]) (by kernel_rfl) (by simp) ?_
  refine AllReadyH.cons rfl (fun K hK => ?_) AllReadyH.nil
  refine step_append_bytes _ rfl (.tmp 12) (.tmp 14) rfl W0.heap.size _ 33 (1 :: l) rfl (own_drew HOW.out) HB1.out.size (some ⟨w.heap.size + 1 + 1, 1, none⟩) 32 32 r rfl (bytes_kept HBr.out (Below.drew HB1.out) (Nat.le_refl _)) (fun h => by cases h) (by omega) ?_
  intro v2 w2 hown2 hb2
  have HB2 : Hid (Below W0.heap.size W0 w2) := (Below.drew HB1.out).trans hb2
  obtain ⟨xo, tc, rfl, q1, q2, q3, q4, q5, q6⟩ := own_bytes hown2
  have hlen : ((1 :: l) ++ r).length = 65 := by have := HL.out; have := HR.out; simp; omega
  rw [hlen] at q1 q3 ⊢
  have HTX : Hid (TxV w2 xo 65 tc (1 :: (l ++ r))) := ⟨q1, q2, q3, by unfold maxLen at q4; omega, by omega⟩
  have HFR : Hid (∀ x, xo = some x → W0.heap.size ≤ x.block) := fun x hx => (q6 x hx).1
  obtain ⟨kk, HKK⟩ : ∃ k, Hid (kc xo 65 tc d = k) := ⟨_, rfl⟩
  have HBD := built134 xo 65 tc d HDL.out
  rw [HKK.out] at HBD
  have HBD : Hid _ := HBD
  refine hK.out _ _ (HS0.out _ HB2.out) (fun hHeld2 => ?_)
  clear hK K hown2 hb2 q1 q2 q3 q4 q5 q6 hlen
  simp only [Act.put, List.getElem_toArray, List.getElem_cons_zero, List.getElem_cons_succ, List.setIfInBounds_toArray, List.set_cons_zero, List.set_cons_succ]
  refine wpAnyH_ready (rs := [9]) (by kernel_rfl) (by simp) ?_
  refine AllReadyH.cons rfl (fun K hK => ?_) AllReadyH.nil
  go_simp
  refine (HND.out _ (HFH.out.2.2.2.2.1.trans (HB2.out.mono (by rw [HFH.out.2.2.2.2.2]; omega)))).mono ?_
  rintro e w3 ⟨rfl, hb3⟩
  have HB3 : Hid (Below W0.heap.size W0 w3) := HB2.out.trans (hb3.mono HB2.out.size)
  have HTX3 : Hid (TxV w3 xo 65 tc (1 :: (l ++ r))) := HTX.out.below hb3 (Nat.le_refl _)
  have HRES : Hid (w3.heap[w.heap.size + 1 + 1 + 1]? = some (.cells #[Value.slice none 0 0, Value.int IntKind.u8 0, Value.int IntKind.u8 0, Value.int IntKind.u8 0, Value.int IntKind.u8 0, Value.int IntKind.u8 0, Value.int IntKind.u8 0, Value.int IntKind.u8 0, Value.int IntKind.u8 0, Value.int IntKind.u8 0, Value.int IntKind.u8 0, Value.int IntKind.u8 0, Value.int IntKind.u8 0, Value.int IntKind.u8 0, Value.int IntKind.u8 0, Value.int IntKind.u8 0, Value.int IntKind.u8 0, Value.int IntKind.u8 0, Value.int IntKind.u8 0, Value.int IntKind.u8 0, Value.int IntKind.u8 0, Value.int IntKind.u8 0, Value.int IntKind.u8 0, Value.int IntKind.u8 0, Value.int IntKind.u8 0, Value.int IntKind.u8 0, Value.int IntKind.u8 0, Value.int IntKind.u8 0, Value.int IntKind.u8 0, Value.int IntKind.u8 0, Value.int IntKind.u8 0, Value.int IntKind.u8 0, Value.int IntKind.u8 0] 155 (0, 0))) := (HB3.out.block _ (by rw [HFH.out.2.2.2.2.2]; omega)).trans HFH.out.2.2.2.1
  go_wp2_with fail
  refine hK.out _ _ (HS0.out _ HB3.out) (fun hHeld2 => ?_)
  clear hK K hb3 HTX
  refine wpAnyH_take (i := 10) (v := .agg kk) rfl (by kernel_rfl) (by kernel_rfl) (by kernel_rfl) (fun _ _ _ h => h) (yieldsIf_build (by rfl) 155 #[(0, .tmp 15), (1, .tmp 21)] rfl kk _ HBD.out rfl) (by assumption) ?_
  simp only [Act.put, List.getElem_toArray, List.getElem_cons_zero, List.getElem_cons_succ, List.setIfInBounds_toArray, List.set_cons_zero, List.set_cons_succ]
  have HKS : Hid (kk.size = 33) := by show _ = _; rw [← HKK.out]; exact kc_size _ _ _ HDL.out
  have HKA : Hid (kk.all (·.oneCell') = true) := by show _ = _; rw [← HKK.out]; exact kc_all _ _ _ _
  refine wpAnyH_ready (rs := [11]) (by kernel_rfl) (by simp) ?_
  refine AllReadyH.cons rfl (fun K hK => ?_) AllReadyH.nil
  rw [if_pos (by rfl)]
  refine wp_store_row 155 (.tmp 6) (.tmp 22) rfl (w.heap.size + 1 + 1 + 1) kk rfl rfl 155 _ HRES.out (by rw [size134, HKS.out]) (by rw [HKS.out]; rfl) HKA.out ?_
  refine hK.out _ _ ?_ (fun hHeld2 => ?_)
  · obtain ⟨q0, q1, q2⟩ := HS0.out _ HB3.out
    exact ⟨cell_row_far q0 (show w.heap.size ≠ w.heap.size + 1 + 1 + 1 by omega), range_far q1 (by omega), range_far q2 (by omega)⟩
  clear hK K
  refine wpAnyH_done (by kernel_rfl) ?_ _
  clear hS hHeld2
  go_wp2_with fail
  refine bodyPost_ret (results_cell_row rfl _ _ (w.heap.size + 1 + 1 + 1) 155 kk (0, 0) _ rfl (setRow_heap _ _ _ _ _ _ HRES.out) Tryd.underlying155 rfl (by rw [size134, HKS.out])) rfl ?_
  refine ⟨xo, 65, tc, by rw [HKK.out], ?_, fun x hx => by have := HFR.out x hx; have := HFH.out.2.2.2.2.2; omega, below_row (HFH.out.2.2.2.2.1.trans (HB3.out.mono (by rw [HFH.out.2.2.2.2.2]; omega))) (by omega) _⟩
  exact HTX3.out.far (fun x hx => by have := HFR.out x hx; have := HFH.out.2.2.2.2.2; omega)
end Go.Proofs.YtecacjddggljgaaDoor.Sm
