/-
  What clash's leafOf and nodeAbove answer: contracts over this translation. Pairs in memory, and what clash's beside answers: contracts over this translation. What clash's beside answers: a contract over this translation.
-/
import Derived.Test.YtaebpnednhkfhaaDoorPartL
namespace Go.Proofs.YtaebpnednhkfhaaDoor
open Go.RowKit
/-- The cells of what is known of a leaf or node: its text, and its sum. -/
def kc (ao : Option Addr) (n c : Nat) (d : List UInt8) : Array Value := (Value.slice ao n c :: cellsOf d).toArray
theorem kc_size (ao : Option Addr) (n c : Nat) {d : List UInt8} (h : d.length = 32) : (kc ao n c d).size = 33 := by
  unfold kc; rw [List.size_toArray, List.length_cons, cellsOf_length, h]
theorem kc_all (ao : Option Addr) (n c : Nat) (d : List UInt8) : (kc ao n c d).all (·.oneCell') = true := by
  unfold kc
  refine all_oneCell_toArray ?_
  intro v hv
  rcases List.mem_cons.1 hv with rfl | h
  · rfl
  · exact cellsOf_one _ v h
theorem size134 : (Tryd.prog.info? 134).map (·.size) = some 33 := by kernel_rfl
theorem built134v (ao : Option Addr) (n c : Nat) (x0 x1 x2 x3 x4 x5 x6 x7 x8 x9 x10 x11 x12 x13 x14 x15 x16 x17 x18 x19 x20 x21 x22 x23 x24 x25 x26 x27 x28 x29 x30 x31 : UInt8) : Tryd.prog.built 134 [(0, .slice ao n c), (1, .agg (cellsOf [x0, x1, x2, x3, x4, x5, x6, x7, x8, x9, x10, x11, x12, x13, x14, x15, x16, x17, x18, x19, x20, x21, x22, x23, x24, x25, x26, x27, x28, x29, x30, x31]).toArray)] = some (kc ao n c [x0, x1, x2, x3, x4, x5, x6, x7, x8, x9, x10, x11, x12, x13, x14, x15, x16, x17, x18, x19, x20, x21, x22, x23, x24, x25, x26, x27, x28, x29, x30, x31]) := by kernel_rfl
theorem built134sv (x0 x1 x2 x3 x4 x5 x6 x7 x8 x9 x10 x11 x12 x13 x14 x15 x16 x17 x18 x19 x20 x21 x22 x23 x24 x25 x26 x27 x28 x29 x30 x31 : UInt8) : Tryd.prog.built 134 [(1, .agg (cellsOf [x0, x1, x2, x3, x4, x5, x6, x7, x8, x9, x10, x11, x12, x13, x14, x15, x16, x17, x18, x19, x20, x21, x22, x23, x24, x25, x26, x27, x28, x29, x30, x31]).toArray)] = some (kc none 0 0 [x0, x1, x2, x3, x4, x5, x6, x7, x8, x9, x10, x11, x12, x13, x14, x15, x16, x17, x18, x19, x20, x21, x22, x23, x24, x25, x26, x27, x28, x29, x30, x31]) := by kernel_rfl
theorem built134 (ao : Option Addr) (n c : Nat) : (d : List UInt8) → d.length = 32 → Tryd.prog.built 134 [(0, .slice ao n c), (1, .agg (cellsOf d).toArray)] = some (kc ao n c d)
  | [x0, x1, x2, x3, x4, x5, x6, x7, x8, x9, x10, x11, x12, x13, x14, x15, x16, x17, x18, x19, x20, x21, x22, x23, x24, x25, x26, x27, x28, x29, x30, x31], _ => built134v ao n c x0 x1 x2 x3 x4 x5 x6 x7 x8 x9 x10 x11 x12 x13 x14 x15 x16 x17 x18 x19 x20 x21 x22 x23 x24 x25 x26 x27 x28 x29 x30 x31
theorem built134s : (d : List UInt8) → d.length = 32 → Tryd.prog.built 134 [(1, .agg (cellsOf d).toArray)] = some (kc none 0 0 d)
  | [x0, x1, x2, x3, x4, x5, x6, x7, x8, x9, x10, x11, x12, x13, x14, x15, x16, x17, x18, x19, x20, x21, x22, x23, x24, x25, x26, x27, x28, x29, x30, x31], _ => built134sv x0 x1 x2 x3 x4 x5 x6 x7 x8 x9 x10 x11 x12 x13 x14 x15 x16 x17 x18 x19 x20 x21 x22 x23 x24 x25 x26 x27 x28 x29 x30 x31
theorem run134 (ao : Option Addr) (n c : Nat) (d : List UInt8) (h : d.length = 32) (w : World) : (Instr.build 134 #[(0, .slice ao n c), (1, .agg (cellsOf d).toArray)]).run Tryd.prog w = .ok (.agg (kc ao n c d)) w := run_build w 134 _ _ (built134 ao n c d h)
theorem run134s (d : List UInt8) (h : d.length = 32) (w : World) : (Instr.build 134 #[(1, .agg (cellsOf d).toArray)]).run Tryd.prog w = .ok (.agg (kc none 0 0 d)) w := run_build w 134 _ _ (built134s d h)
/-- A text that is there. -/
def TxV (w : World) (ao : Option Addr) (n c : Nat) (bs : List UInt8) : Prop := Bytes w ao n bs ∧ (ao = none → c = 0) ∧ n ≤ c ∧ c ≤ 9223372036854775807 ∧ n ≤ 140737488355328
def TxB (base : Nat) (ao : Option Addr) : Prop := ∀ x, ao = some x → base ≤ x.block
theorem TxB.mono {a b : Nat} {ao : Option Addr} (h : TxB b ao) (hab : a ≤ b) : TxB a ao := fun x hx => Nat.le_trans hab (h x hx)
theorem TxV.below {w w' : World} {B n c : Nat} {ao : Option Addr} {bs : List UInt8} (h : TxV w ao n c bs) (hb : Below B w w') (hB : w.heap.size ≤ B) : TxV w' ao n c bs := ⟨bytes_kept h.1 hb hB, h.2⟩
theorem TxV.far {w : World} {g n c : Nat} {ao : Option Addr} {bs : List UInt8} {cs : Array Value} (h : TxV w ao n c bs) (hg : ∀ x, ao = some x → x.block ≠ g) : TxV (w.setRow g cs) ao n c bs :=
  ⟨⟨h.1.1, fun i u hu => by
    obtain ⟨x, hx, hc⟩ := h.1.2 i u hu
    exact ⟨x, hx, cell_row_far hc (by unfold Addr.add; split <;> exact hg x hx)⟩⟩, h.2⟩
theorem txv_nil (w : World) : TxV w none 0 0 [] := ⟨⟨rfl, fun i c h => by simp at h⟩, fun _ => rfl, Nat.le_refl _, by omega, by omega⟩
theorem yieldsIf_build {ops : Array Oper} {S : World → Prop} {op : Oper} {a : Act} (hw : Region.wanted op (yielded ops a.tmps) = true) (t : TypeId) (parts : Array (Nat × Operand)) (ho : op.op = .build t parts) (cells : Array Value) (vs : List (Nat × Value)) (hb : Tryd.prog.built t vs = some cells) (hv : (parts.toList.map fun (y : Nat × Operand) => (y.1, a.eval y.2)) = vs) : YieldsIf Tryd.prog ops S op (.agg cells) a :=
  .inl ⟨hw, fun w _ => by
    subst hv
    rw [← Array.toList_map] at hb
    unfold execOp
    simp only [ho, Sem.run_bind, run_build w t _ cells hb, Result.andThen_ok, Sem.run_pure]⟩
set_option maxRecDepth 100000 in
set_option maxHeartbeats 2000000 in
theorem leafOf_any (z : Int) (ao : Option Addr) (n c : Nat) (bs : List UInt8) (w : World) (hb : Bytes w ao n bs) (h0 : ao = none → c = 0) (hn : n ≤ 140737488355000) (hK : WW w 0 ks) (hz0 : 0 < w.heap.size) (hz : -9223372036854775808 ≤ z ∧ z ≤ 9223372036854775807) :
    Calls Tryd.prog 93 #[.agg #[.int .i64 z], .slice ao n c] w fun e w' => ∃ xo tn tc, e = .returned (.agg (kc xo tn tc (leafD z bs))) ∧ TxV w' xo tn tc (0 :: bs) ∧ TxB w.heap.size xo ∧ Below w.heap.size w w' := by
  have HB : Hid (Bytes w ao n bs) := hb
  have HN : Hid (n ≤ 140737488355000) := hn
  have H0 : Hid (ao = none → c = 0) := h0
  have HLF : Hid (∀ W, Below w.heap.size w W → Calls Tryd.prog 29 #[.agg #[.int .i64 z], .slice ao n c] W fun e w' => e = .returned (dv (leafD z bs)) ∧ Below W.heap.size W w') := fun W hW => leaf_any z ao n c bs W (bytes_kept hb hW (Nat.le_refl _)) h0 hn (hK.below hW hz0) (Nat.lt_of_lt_of_le hz0 hW.size) hz
  obtain ⟨d, HD⟩ : ∃ d, Hid (leafD z bs = d) := ⟨_, rfl⟩
  have HDL : Hid (d.length = 32) := by show _ = _; rw [← HD.out]; exact leafD_length z bs
  rw [HD.out] at HLF ⊢
  clear hb hK h0 hz hn HD
  go_enter Tryd.func93, Tryd.ntmps93
  go_wp2_with fail
  obtain ⟨W0, HW0⟩ : ∃ W, Hid ((w.alloc (Obj.cells #[Value.int IntKind.i64 z] 30)).alloc (Obj.cells #[Value.slice none 0 0, Value.int IntKind.u8 0, Value.int IntKind.u8 0, Value.int IntKind.u8 0, Value.int IntKind.u8 0, Value.int IntKind.u8 0, Value.int IntKind.u8 0, Value.int IntKind.u8 0, Value.int IntKind.u8 0, Value.int IntKind.u8 0, Value.int IntKind.u8 0, Value.int IntKind.u8 0, Value.int IntKind.u8 0, Value.int IntKind.u8 0, Value.int IntKind.u8 0, Value.int IntKind.u8 0, Value.int IntKind.u8 0, Value.int IntKind.u8 0, Value.int IntKind.u8 0, Value.int IntKind.u8 0, Value.int IntKind.u8 0, Value.int IntKind.u8 0, Value.int IntKind.u8 0, Value.int IntKind.u8 0, Value.int IntKind.u8 0, Value.int IntKind.u8 0, Value.int IntKind.u8 0, Value.int IntKind.u8 0, Value.int IntKind.u8 0, Value.int IntKind.u8 0, Value.int IntKind.u8 0, Value.int IntKind.u8 0, Value.int IntKind.u8 0] 134) = W) := ⟨_, rfl⟩
  have HF := frame2 w (Obj.cells #[Value.int IntKind.i64 z] 30) #[Value.slice none 0 0, Value.int IntKind.u8 0, Value.int IntKind.u8 0, Value.int IntKind.u8 0, Value.int IntKind.u8 0, Value.int IntKind.u8 0, Value.int IntKind.u8 0, Value.int IntKind.u8 0, Value.int IntKind.u8 0, Value.int IntKind.u8 0, Value.int IntKind.u8 0, Value.int IntKind.u8 0, Value.int IntKind.u8 0, Value.int IntKind.u8 0, Value.int IntKind.u8 0, Value.int IntKind.u8 0, Value.int IntKind.u8 0, Value.int IntKind.u8 0, Value.int IntKind.u8 0, Value.int IntKind.u8 0, Value.int IntKind.u8 0, Value.int IntKind.u8 0, Value.int IntKind.u8 0, Value.int IntKind.u8 0, Value.int IntKind.u8 0, Value.int IntKind.u8 0, Value.int IntKind.u8 0, Value.int IntKind.u8 0, Value.int IntKind.u8 0, Value.int IntKind.u8 0, Value.int IntKind.u8 0, Value.int IntKind.u8 0, Value.int IntKind.u8 0] 134
  rw [HW0.out] at HF ⊢
  have HS0 : Hid (∀ W, Below W0.heap.size W0 W → W.cell? ⟨w.heap.size, 0, none⟩ = some (.int .i64 z)) := fun W hW => bel_cell2 hW (Nat.le_refl _) (by rw [cell_of_row W0 _ 0 _ _ _ HF.1]; rfl)
  have HFH : Hid _ := HF
  clear HF HW0
  refine wp_region_held_drew (S := fun w' => w'.cell? ⟨w.heap.size, 0, none⟩ = some (.int .i64 z)) (by kernel_rfl) (HS0.out _ (Below.drew (Below.refl _ _))) (fun hS => ?_)
  refine wpAnyH_take (i := 1) (v := ?_) rfl (by kernel_rfl) (by kernel_rfl) (by kernel_rfl) (fun _ _ _ h => h) (Or.inl ⟨by rfl, ?_⟩) (by assumption) ?_
  rotate_left
  · (intro w hSw; (try dsimp only at hSw); go_simp; try with_reducible rfl)
  simp only [Act.put, List.getElem_toArray, List.getElem_cons_zero, List.getElem_cons_succ, List.setIfInBounds_toArray, List.set_cons_zero, List.set_cons_succ]
  refine wpAnyH_take (i := 3) (v := ?_) rfl (by kernel_rfl) (by kernel_rfl) (by kernel_rfl) (fun _ _ _ h => h) (Or.inl ⟨by rfl, ?_⟩) (by assumption) ?_
  rotate_left
  · (intro w hSw; (try dsimp only at hSw); go_simp; try with_reducible rfl)
  simp only [Act.put, List.getElem_toArray, List.getElem_cons_zero, List.getElem_cons_succ, List.setIfInBounds_toArray, List.set_cons_zero, List.set_cons_succ]
  refine wpAnyH_take (i := 4) (v := ?_) rfl (by kernel_rfl) (by kernel_rfl) (by kernel_rfl) (fun _ _ _ h => h) (Or.inl ⟨by rfl, ?_⟩) (by assumption) ?_
  rotate_left
  · (intro w hSw; (try dsimp only at hSw); go_simp; try with_reducible rfl)
  simp only [Act.put, List.getElem_toArray, List.getElem_cons_zero, List.getElem_cons_succ, List.setIfInBounds_toArray, List.set_cons_zero, List.set_cons_succ]
  refine wpAnyH_ready (rs := [0]) (by kernel_rfl) (by simp) ?_
  refine AllReadyH.cons rfl (fun K hK => ?_) AllReadyH.nil
  go_simp
  refine hK.out _ _ (HS0.out _ ((Below.drew (Below.refl _ _)).alloc (Nat.le_refl _) _)) (fun hHeld2 => ?_)
  clear hK K
  refine wpAnyH_ready (rs := [2]) (by kernel_rfl) (by simp) ?_
  refine AllReadyH.cons rfl (fun K hK => ?_) AllReadyH.nil
  refine step_append_bytes _ rfl (.tmp 5) (.tmp 6) rfl W0.heap.size _ 1 [0] rfl (own_one W0.drew 0) (by simp) ao n c bs rfl (bytes_kept HB.out (HFH.out.2.2.1.trans ((Below.drew (Below.refl _ _)).alloc (by simp [HFH.out.2.2.2]) _)) (Nat.le_refl _)) H0.out (by have := HN.out; omega) ?_
  intro v2 w2 hown2 hb2
  have HB2 : Hid (Below W0.heap.size W0 w2) := ((Below.drew (Below.refl _ _)).alloc (Nat.le_refl _) _).trans hb2
  obtain ⟨xo, tc, rfl, q1, q2, q3, q4, q5, q6⟩ := own_bytes hown2
  have hlen : ([0] ++ bs).length = n + 1 := by have := HB.out.1; simp; omega
  rw [hlen] at q1 q3 ⊢
  have HTX : Hid (TxV w2 xo (n + 1) tc (0 :: bs)) := ⟨q1, q2, q3, by unfold maxLen at q4; omega, by have := HN.out; omega⟩
  have HFR : Hid (∀ x, xo = some x → W0.heap.size ≤ x.block) := fun x hx => (q6 x hx).1
  obtain ⟨kk, HKK⟩ : ∃ k, Hid (kc xo (n + 1) tc d = k) := ⟨_, rfl⟩
  have HBD := built134 xo (n + 1) tc d HDL.out
  rw [HKK.out] at HBD
  have HBD : Hid _ := HBD
  refine hK.out _ _ (HS0.out _ HB2.out) (fun hHeld2 => ?_)
  clear hK K hown2 hb2 q1 q2 q3 q4 q5 q6 hlen
  simp only [Act.put, List.getElem_toArray, List.getElem_cons_zero, List.getElem_cons_succ, List.setIfInBounds_toArray, List.set_cons_zero, List.set_cons_succ]
  refine wpAnyH_ready (rs := [5]) (by kernel_rfl) (by simp) ?_
  refine AllReadyH.cons rfl (fun K hK => ?_) AllReadyH.nil
  go_simp
  refine (HLF.out _ (HFH.out.2.2.1.trans (HB2.out.mono (by rw [HFH.out.2.2.2]; omega)))).mono ?_
  rintro e w3 ⟨rfl, hb3⟩
  have HB3 : Hid (Below W0.heap.size W0 w3) := HB2.out.trans (hb3.mono HB2.out.size)
  have HTX3 : Hid (TxV w3 xo (n + 1) tc (0 :: bs)) := HTX.out.below hb3 (Nat.le_refl _)
  have HRES : Hid (w3.heap[w.heap.size + 1]? = some (.cells #[Value.slice none 0 0, Value.int IntKind.u8 0, Value.int IntKind.u8 0, Value.int IntKind.u8 0, Value.int IntKind.u8 0, Value.int IntKind.u8 0, Value.int IntKind.u8 0, Value.int IntKind.u8 0, Value.int IntKind.u8 0, Value.int IntKind.u8 0, Value.int IntKind.u8 0, Value.int IntKind.u8 0, Value.int IntKind.u8 0, Value.int IntKind.u8 0, Value.int IntKind.u8 0, Value.int IntKind.u8 0, Value.int IntKind.u8 0, Value.int IntKind.u8 0, Value.int IntKind.u8 0, Value.int IntKind.u8 0, Value.int IntKind.u8 0, Value.int IntKind.u8 0, Value.int IntKind.u8 0, Value.int IntKind.u8 0, Value.int IntKind.u8 0, Value.int IntKind.u8 0, Value.int IntKind.u8 0, Value.int IntKind.u8 0, Value.int IntKind.u8 0, Value.int IntKind.u8 0, Value.int IntKind.u8 0, Value.int IntKind.u8 0, Value.int IntKind.u8 0] 134 (0, 0))) := (HB3.out.block _ (by rw [HFH.out.2.2.2]; omega)).trans HFH.out.2.1
  unfold dv
  go_wp2_with fail
  refine hK.out _ _ (HS0.out _ HB3.out) (fun hHeld2 => ?_)
  clear hK K hb3 HTX
  refine wpAnyH_take (i := 6) (v := .agg kk) rfl (by kernel_rfl) (by kernel_rfl) (by kernel_rfl) (fun _ _ _ h => h) (yieldsIf_build (by rfl) 134 #[(0, .tmp 7), (1, .tmp 10)] rfl kk _ HBD.out rfl) (by assumption) ?_
  simp only [Act.put, List.getElem_toArray, List.getElem_cons_zero, List.getElem_cons_succ, List.setIfInBounds_toArray, List.set_cons_zero, List.set_cons_succ]
  have HKS : Hid (kk.size = 33) := by show _ = _; rw [← HKK.out]; exact kc_size _ _ _ HDL.out
  have HKA : Hid (kk.all (·.oneCell') = true) := by show _ = _; rw [← HKK.out]; exact kc_all _ _ _ _
  refine wpAnyH_ready (rs := [7]) (by kernel_rfl) (by simp) ?_
  refine AllReadyH.cons rfl (fun K hK => ?_) AllReadyH.nil
  rw [if_pos (by rfl)]
  refine wp_store_row 134 (.tmp 4) (.tmp 11) rfl (w.heap.size + 1) kk rfl rfl 134 _ HRES.out (by rw [size134, HKS.out]) (by rw [HKS.out]; rfl) HKA.out ?_
  refine hK.out _ _ (cell_row_far (HS0.out _ HB3.out) (show w.heap.size ≠ w.heap.size + 1 by omega)) (fun hHeld2 => ?_)
  clear hK K
  refine wpAnyH_done (by kernel_rfl) ?_ _
  clear hS hHeld2
  go_wp2_with fail
  refine bodyPost_ret (results_cell_row rfl _ _ (w.heap.size + 1) 134 kk (0, 0) _ rfl (setRow_heap _ _ _ _ _ _ HRES.out) Tryd.underlying134 rfl (by rw [size134, HKS.out])) rfl ?_
  refine ⟨xo, n + 1, tc, by rw [HKK.out], ?_, fun x hx => by have := HFR.out x hx; have := HFH.out.2.2.2; omega, below_row (HFH.out.2.2.1.trans (HB3.out.mono (by rw [HFH.out.2.2.2]; omega))) (by omega) _⟩
  exact HTX3.out.far (fun x hx => by have := HFR.out x hx; have := HFH.out.2.2.2; omega)
theorem kc_row {w : World} {g : Nat} {ao : Option Addr} {n c : Nat} {d : List UInt8} {t : TypeId} {fr : Nat × Nat} (h : w.heap[g]? = some (.cells (kc ao n c d) t fr)) : w.cell? ⟨g, 0, none⟩ = some (.slice ao n c) ∧ w.rangeAt g 1 (cellsOf d) := by
  refine ⟨by rw [cell_of_row _ _ 0 _ _ _ h]; rfl, fun j v hv => ?_⟩
  rw [cell_of_row _ _ _ _ _ _ h, kc, Nat.add_comm 1 j, List.getElem?_toArray, List.getElem?_cons_succ]
  exact hv
theorem range_bytes {w : World} {g o : Nat} {d : List UInt8} (h : w.rangeAt g o (cellsOf d)) : Bytes w (some ⟨g, o, none⟩) d.length d := by
  refine ⟨rfl, fun i c hi => ⟨_, rfl, ?_⟩⟩
  rw [Addr.add_lit]
  exact h i _ (by simp [cellsOf, hi])
set_option maxRecDepth 100000 in
set_option maxHeartbeats 2000000 in
theorem nodeAbove_any (z : Int) (lo : Option Addr) (ln lc : Nat) (l : List UInt8) (ro : Option Addr) (rn rc : Nat) (r : List UInt8) (w : World) (hl : l.length = 32) (hr : r.length = 32) (hK : WW w 0 ks) (hz0 : 0 < w.heap.size) (hz : -9223372036854775808 ≤ z ∧ z ≤ 9223372036854775807) :
    Calls Tryd.prog 94 #[.agg #[.int .i64 z], .agg (kc lo ln lc l), .agg (kc ro rn rc r)] w fun e w' => ∃ xo tn tc, e = .returned (.agg (kc xo tn tc (nodeD z l r))) ∧ TxV w' xo tn tc (1 :: (l ++ r)) ∧ TxB w.heap.size xo ∧ Below w.heap.size w w' := by
  have HND : Hid (∀ W, Below w.heap.size w W → Calls Tryd.prog 26 #[.agg #[.int .i64 z], dv l, dv r] W fun e w' => e = .returned (dv (nodeD z l r)) ∧ Below W.heap.size W w') := fun W hW => node_any z l r W hl hr (hK.below hW hz0) (Nat.lt_of_lt_of_le hz0 hW.size) hz
  obtain ⟨d, HD⟩ : ∃ d, Hid (nodeD z l r = d) := ⟨_, rfl⟩
  have HDL : Hid (d.length = 32) := by show _ = _; rw [← HD.out]; exact nodeD_length z l r
  rw [HD.out] at HND ⊢
  have HL : Hid (l.length = 32) := hl
  have HR : Hid (r.length = 32) := hr
  clear hK hz HD hl hr
  unfold dv at HND
  obtain ⟨cl, HCL⟩ : ∃ c, Hid (kc lo ln lc l = c) := ⟨_, rfl⟩
  obtain ⟨cr, HCR⟩ : ∃ c, Hid (kc ro rn rc r = c) := ⟨_, rfl⟩
  rw [HCL.out, HCR.out]
  go_enter Tryd.func94, Tryd.ntmps94
  go_upto_region 1 with fail
  obtain ⟨W0, HW0⟩ : ∃ W, Hid (W = (((w.alloc (Obj.cells #[Value.int IntKind.i64 z] 30)).alloc (Obj.cells cl 134)).alloc (Obj.cells cr 134)).alloc (Obj.cells #[Value.slice none 0 0, Value.int IntKind.u8 0, Value.int IntKind.u8 0, Value.int IntKind.u8 0, Value.int IntKind.u8 0, Value.int IntKind.u8 0, Value.int IntKind.u8 0, Value.int IntKind.u8 0, Value.int IntKind.u8 0, Value.int IntKind.u8 0, Value.int IntKind.u8 0, Value.int IntKind.u8 0, Value.int IntKind.u8 0, Value.int IntKind.u8 0, Value.int IntKind.u8 0, Value.int IntKind.u8 0, Value.int IntKind.u8 0, Value.int IntKind.u8 0, Value.int IntKind.u8 0, Value.int IntKind.u8 0, Value.int IntKind.u8 0, Value.int IntKind.u8 0, Value.int IntKind.u8 0, Value.int IntKind.u8 0, Value.int IntKind.u8 0, Value.int IntKind.u8 0, Value.int IntKind.u8 0, Value.int IntKind.u8 0, Value.int IntKind.u8 0, Value.int IntKind.u8 0, Value.int IntKind.u8 0, Value.int IntKind.u8 0, Value.int IntKind.u8 0] 134)) := ⟨_, rfl⟩
  have HF := frame4 w (Obj.cells #[Value.int IntKind.i64 z] 30) (Obj.cells cl 134) (Obj.cells cr 134) #[Value.slice none 0 0, Value.int IntKind.u8 0, Value.int IntKind.u8 0, Value.int IntKind.u8 0, Value.int IntKind.u8 0, Value.int IntKind.u8 0, Value.int IntKind.u8 0, Value.int IntKind.u8 0, Value.int IntKind.u8 0, Value.int IntKind.u8 0, Value.int IntKind.u8 0, Value.int IntKind.u8 0, Value.int IntKind.u8 0, Value.int IntKind.u8 0, Value.int IntKind.u8 0, Value.int IntKind.u8 0, Value.int IntKind.u8 0, Value.int IntKind.u8 0, Value.int IntKind.u8 0, Value.int IntKind.u8 0, Value.int IntKind.u8 0, Value.int IntKind.u8 0, Value.int IntKind.u8 0, Value.int IntKind.u8 0, Value.int IntKind.u8 0, Value.int IntKind.u8 0, Value.int IntKind.u8 0, Value.int IntKind.u8 0, Value.int IntKind.u8 0, Value.int IntKind.u8 0, Value.int IntKind.u8 0, Value.int IntKind.u8 0, Value.int IntKind.u8 0] 134 W0 HW0.out
  rw [← HW0.out]
  have HFH : Hid _ := HF
  clear HF HW0
  have HRL : Hid (W0.rangeAt (w.heap.size + 1) 1 (cellsOf l)) := (kc_row (by rw [HCL.out]; exact HFH.out.2.1)).2
  have HRR : Hid (W0.rangeAt (w.heap.size + 1 + 1) 1 (cellsOf r)) := (kc_row (by rw [HCR.out]; exact HFH.out.2.2.1)).2
  have HBl : Hid (Bytes W0 (some ⟨w.heap.size + 1, 1, none⟩) 32 l) := by have := range_bytes HRL.out; rw [HL.out] at this; exact this
  have HBr : Hid (Bytes W0 (some ⟨w.heap.size + 1 + 1, 1, none⟩) 32 r) := by have := range_bytes HRR.out; rw [HR.out] at this; exact this
  have HO1 : Hid ((W0.alloc (.cells #[.int .u8 ((1 : UInt8).toNat : Int)] 5)).ownsRow W0.heap.size 5 1 (.slice (some ⟨W0.heap.size, 0, none⟩) 1 1) 1 (cellsOf [1])) := own_one W0 1
  have HIL : Hid ((Tryd.prog.info? 24).map (·.size) = some (cellsOf l).length) := by show _ = _; rw [size24, cellsOf_length, HL.out]
  have HIR : Hid ((Tryd.prog.info? 24).map (·.size) = some (cellsOf r).length) := by show _ = _; rw [size24, cellsOf_length, HR.out]
  go_wp2_with (at_builtin; refine wpList_append_bytes _ rfl (.tmp 8) (.tmp 10) rfl W0.heap.size _ 1 [1] rfl HO1.out (by simp) (some ⟨w.heap.size + 1, 1, none⟩) 32 32 l rfl (bytes_kept HBl.out (bel_alloc W0 _) (Nat.le_refl _)) (fun h => by cases h) (by omega) ?_)
  intro v1 w1 hown1 hb1
  have HB1 : Hid (Below W0.heap.size W0 w1) := (bel_alloc W0 _).trans hb1
  have hl1 : l.length + 1 = 33 := by have := HL.out; omega
  rw [hl1] at hown1
  have HOW : Hid _ := hown1
  have HS0 : Hid (∀ W, Below W0.heap.size W0 W → W.cell? ⟨w.heap.size, 0, none⟩ = some (.int .i64 z) ∧ W.rangeAt (w.heap.size + 1) 1 (cellsOf l) ∧ W.rangeAt (w.heap.size + 1 + 1) 1 (cellsOf r)) := fun W hW => ⟨bel_cell2 hW (Nat.le_refl _) (by rw [cell_of_row W0 _ 0 _ _ _ HFH.out.1]; rfl), range_bel HRL.out hW (Nat.le_refl _), range_bel HRR.out hW (Nat.le_refl _)⟩
  clear hown1 hb1 HO1 hl1
  go_wp2_with fail
  refine wp_region_held_drew (S := fun W => W.cell? ⟨w.heap.size, 0, none⟩ = some (.int .i64 z) ∧ W.rangeAt (w.heap.size + 1) 1 (cellsOf l) ∧ W.rangeAt (w.heap.size + 1 + 1) 1 (cellsOf r)) (by kernel_rfl) (HS0.out _ (Below.drew HB1.out)) (fun hS => ?_)
  refine wpAnyH_take (i := 0) (v := ?_) rfl (by kernel_rfl) (by kernel_rfl) (by kernel_rfl) (fun _ _ _ h => h) (Or.inl ⟨by rfl, ?_⟩) (by assumption) ?_
  rotate_left
  · (intro w hSw; (try dsimp only at hSw); go_simp; try with_reducible rfl)
  simp only [Act.put, List.getElem_toArray, List.getElem_cons_zero, List.setIfInBounds_toArray, List.set_cons_zero, List.set_cons_succ]
  refine wpAnyH_take (i := 1) (v := ?_) rfl (by kernel_rfl) (by kernel_rfl) (by kernel_rfl) (fun _ _ _ h => h) (Or.inl ⟨by rfl, ?_⟩) (by assumption) ?_
  rotate_left
  · (intro w hSw; (try dsimp only at hSw); go_simp; try with_reducible rfl)
  simp only [Act.put, List.getElem_toArray, List.getElem_cons_zero, List.getElem_cons_succ, List.setIfInBounds_toArray, List.set_cons_zero, List.set_cons_succ]
  refine wpAnyH_take (i := 2) (v := ?_) rfl (by kernel_rfl) (by kernel_rfl) (by kernel_rfl) (fun _ _ _ h => h) (Or.inl ⟨by rfl, ?_⟩) (by assumption) ?_
  rotate_left
  · (intro w hSw; (try dsimp only at hSw); go_simp; try with_reducible rfl)
  simp only [Act.put, List.getElem_toArray, List.getElem_cons_zero, List.getElem_cons_succ, List.setIfInBounds_toArray, List.set_cons_zero, List.set_cons_succ]
  refine wpAnyH_take (i := 4) (v := ?_) rfl (by kernel_rfl) (by kernel_rfl) (by kernel_rfl) (fun _ _ _ h => h) (Or.inl ⟨by rfl, ?_⟩) (by assumption) ?_
  rotate_left
  · (intro w hSw; (try dsimp only at hSw); go_simp; try with_reducible rfl)
  simp only [Act.put, List.getElem_toArray, List.getElem_cons_zero, List.getElem_cons_succ, List.setIfInBounds_toArray, List.set_cons_zero, List.set_cons_succ]
  refine wpAnyH_take (i := 5) (v := ?_) rfl (by kernel_rfl) (by kernel_rfl) (by kernel_rfl) (fun _ _ _ h => h) (Or.inl ⟨by rfl, ?_⟩) (by assumption) ?_
  rotate_left
  · (intro w hSw; (try dsimp only at hSw); go_simp; try with_reducible rfl)
  simp only [Act.put, List.getElem_toArray, List.getElem_cons_zero, List.getElem_cons_succ, List.setIfInBounds_toArray, List.set_cons_zero, List.set_cons_succ]
  refine wpAnyH_take (i := 6) (v := .agg (cellsOf l).toArray) rfl (by kernel_rfl) (by kernel_rfl) (by kernel_rfl) (fun _ _ _ h => h) (yieldsIf_load_mid (by rfl) 24 (.tmp 17) rfl (w.heap.size + 1) 1 rfl (cellsOf l) _ (fun _ h => h.2.1) Tryd.underlying24 rfl HIL.out) (by assumption) ?_
  simp only [Act.put, List.getElem_toArray, List.getElem_cons_zero, List.getElem_cons_succ, List.setIfInBounds_toArray, List.set_cons_zero, List.set_cons_succ]
  refine wpAnyH_take (i := 7) (v := ?_) rfl (by kernel_rfl) (by kernel_rfl) (by kernel_rfl) (fun _ _ _ h => h) (Or.inl ⟨by rfl, ?_⟩) (by assumption) ?_
  rotate_left
  · (intro w hSw; (try dsimp only at hSw); go_simp; try with_reducible rfl)
  simp only [Act.put, List.getElem_toArray, List.getElem_cons_zero, List.getElem_cons_succ, List.setIfInBounds_toArray, List.set_cons_zero, List.set_cons_succ]
  refine wpAnyH_take (i := 8) (v := .agg (cellsOf r).toArray) rfl (by kernel_rfl) (by kernel_rfl) (by kernel_rfl) (fun _ _ _ h => h) (yieldsIf_load_mid (by rfl) 24 (.tmp 19) rfl (w.heap.size + 1 + 1) 1 rfl (cellsOf r) _ (fun _ h => h.2.2) Tryd.underlying24 rfl HIR.out) (by assumption) ?_
  simp only [Act.put, List.getElem_toArray, List.getElem_cons_zero, List.getElem_cons_succ, List.setIfInBounds_toArray, List.set_cons_zero, List.set_cons_succ]
  refine wpAnyH_ready (rs := [3]) (by kernel_rfl) (by simp) ?_
  refine AllReadyH.cons rfl (fun K hK => ?_) AllReadyH.nil
  refine step_append_bytes _ rfl (.tmp 12) (.tmp 14) rfl W0.heap.size _ 33 (1 :: l) rfl (own_drew HOW.out) HB1.out.size (some ⟨w.heap.size + 1 + 1, 1, none⟩) 32 32 r rfl (bytes_kept HBr.out (Below.drew HB1.out) (Nat.le_refl _)) (fun h => by cases h) (by omega) ?_
  intro v2 w2 hown2 hb2
  have HB2 : Hid (Below W0.heap.size W0 w2) := (Below.drew HB1.out).trans hb2
  obtain ⟨xo, tc, rfl, q1, q2, q3, q4, q5, q6⟩ := own_bytes hown2
  have hlen : ((1 :: l) ++ r).length = 65 := by have := HL.out; have := HR.out; simp; omega
  rw [hlen] at q1 q3 ⊢
  have HTX : Hid (TxV w2 xo 65 tc (1 :: (l ++ r))) := ⟨q1, q2, q3, by unfold maxLen at q4; omega, by omega⟩
  have HFR : Hid (∀ x, xo = some x → W0.heap.size ≤ x.block) := fun x hx => (q6 x hx).1
  obtain ⟨kk, HKK⟩ : ∃ k, Hid (kc xo 65 tc d = k) := ⟨_, rfl⟩
  have HBD := built134 xo 65 tc d HDL.out
  rw [HKK.out] at HBD
  have HBD : Hid _ := HBD
  refine hK.out _ _ (HS0.out _ HB2.out) (fun hHeld2 => ?_)
  clear hK K hown2 hb2 q1 q2 q3 q4 q5 q6 hlen
  simp only [Act.put, List.getElem_toArray, List.getElem_cons_zero, List.getElem_cons_succ, List.setIfInBounds_toArray, List.set_cons_zero, List.set_cons_succ]
  refine wpAnyH_ready (rs := [9]) (by kernel_rfl) (by simp) ?_
  refine AllReadyH.cons rfl (fun K hK => ?_) AllReadyH.nil
  go_simp
  refine (HND.out _ (HFH.out.2.2.2.2.1.trans (HB2.out.mono (by rw [HFH.out.2.2.2.2.2]; omega)))).mono ?_
  rintro e w3 ⟨rfl, hb3⟩
  have HB3 : Hid (Below W0.heap.size W0 w3) := HB2.out.trans (hb3.mono HB2.out.size)
  have HTX3 : Hid (TxV w3 xo 65 tc (1 :: (l ++ r))) := HTX.out.below hb3 (Nat.le_refl _)
  have HRES : Hid (w3.heap[w.heap.size + 1 + 1 + 1]? = some (.cells #[Value.slice none 0 0, Value.int IntKind.u8 0, Value.int IntKind.u8 0, Value.int IntKind.u8 0, Value.int IntKind.u8 0, Value.int IntKind.u8 0, Value.int IntKind.u8 0, Value.int IntKind.u8 0, Value.int IntKind.u8 0, Value.int IntKind.u8 0, Value.int IntKind.u8 0, Value.int IntKind.u8 0, Value.int IntKind.u8 0, Value.int IntKind.u8 0, Value.int IntKind.u8 0, Value.int IntKind.u8 0, Value.int IntKind.u8 0, Value.int IntKind.u8 0, Value.int IntKind.u8 0, Value.int IntKind.u8 0, Value.int IntKind.u8 0, Value.int IntKind.u8 0, Value.int IntKind.u8 0, Value.int IntKind.u8 0, Value.int IntKind.u8 0, Value.int IntKind.u8 0, Value.int IntKind.u8 0, Value.int IntKind.u8 0, Value.int IntKind.u8 0, Value.int IntKind.u8 0, Value.int IntKind.u8 0, Value.int IntKind.u8 0, Value.int IntKind.u8 0] 134 (0, 0))) := (HB3.out.block _ (by rw [HFH.out.2.2.2.2.2]; omega)).trans HFH.out.2.2.2.1
  go_wp2_with fail
  refine hK.out _ _ (HS0.out _ HB3.out) (fun hHeld2 => ?_)
  clear hK K hb3 HTX
  refine wpAnyH_take (i := 10) (v := .agg kk) rfl (by kernel_rfl) (by kernel_rfl) (by kernel_rfl) (fun _ _ _ h => h) (yieldsIf_build (by rfl) 134 #[(0, .tmp 15), (1, .tmp 21)] rfl kk _ HBD.out rfl) (by assumption) ?_
  simp only [Act.put, List.getElem_toArray, List.getElem_cons_zero, List.getElem_cons_succ, List.setIfInBounds_toArray, List.set_cons_zero, List.set_cons_succ]
  have HKS : Hid (kk.size = 33) := by show _ = _; rw [← HKK.out]; exact kc_size _ _ _ HDL.out
  have HKA : Hid (kk.all (·.oneCell') = true) := by show _ = _; rw [← HKK.out]; exact kc_all _ _ _ _
  refine wpAnyH_ready (rs := [11]) (by kernel_rfl) (by simp) ?_
  refine AllReadyH.cons rfl (fun K hK => ?_) AllReadyH.nil
  rw [if_pos (by rfl)]
  refine wp_store_row 134 (.tmp 6) (.tmp 22) rfl (w.heap.size + 1 + 1 + 1) kk rfl rfl 134 _ HRES.out (by rw [size134, HKS.out]) (by rw [HKS.out]; rfl) HKA.out ?_
  refine hK.out _ _ ?_ (fun hHeld2 => ?_)
  · obtain ⟨q0, q1, q2⟩ := HS0.out _ HB3.out
    exact ⟨cell_row_far q0 (show w.heap.size ≠ w.heap.size + 1 + 1 + 1 by omega), range_far q1 (by omega), range_far q2 (by omega)⟩
  clear hK K
  refine wpAnyH_done (by kernel_rfl) ?_ _
  clear hS hHeld2
  go_wp2_with fail
  refine bodyPost_ret (results_cell_row rfl _ _ (w.heap.size + 1 + 1 + 1) 134 kk (0, 0) _ rfl (setRow_heap _ _ _ _ _ _ HRES.out) Tryd.underlying134 rfl (by rw [size134, HKS.out])) rfl ?_
  refine ⟨xo, 65, tc, by rw [HKK.out], ?_, fun x hx => by have := HFR.out x hx; have := HFH.out.2.2.2.2.2; omega, below_row (HFH.out.2.2.2.2.1.trans (HB3.out.mono (by rw [HFH.out.2.2.2.2.2]; omega))) (by omega) _⟩
  exact HTX3.out.far (fun x hx => by have := HFR.out x hx; have := HFH.out.2.2.2.2.2; omega)
end Go.Proofs.YtaebpnednhkfhaaDoor
namespace Go.Proofs.YtaebpnednhkfhaaDoor
open Go.RowKit
/-- The cells of a pair. -/
def pairC (oo : Option Addr) (on oc : Nat) (od : List UInt8) (ro : Option Addr) (rn rc : Nat) (rd : List UInt8) (lp rp : Option Addr) : Array Value := ((Value.slice oo on oc :: cellsOf od) ++ ((Value.slice ro rn rc :: cellsOf rd) ++ [Value.pointer lp, Value.pointer rp])).toArray
theorem built137v (oo : Option Addr) (on oc : Nat) (ro : Option Addr) (rn rc : Nat) (x0 x1 x2 x3 x4 x5 x6 x7 x8 x9 x10 x11 x12 x13 x14 x15 x16 x17 x18 x19 x20 x21 x22 x23 x24 x25 x26 x27 x28 x29 x30 x31 y0 y1 y2 y3 y4 y5 y6 y7 y8 y9 y10 y11 y12 y13 y14 y15 y16 y17 y18 y19 y20 y21 y22 y23 y24 y25 y26 y27 y28 y29 y30 y31 : UInt8) : Tryd.prog.built 137 [(0, .agg (kc oo on oc [x0, x1, x2, x3, x4, x5, x6, x7, x8, x9, x10, x11, x12, x13, x14, x15, x16, x17, x18, x19, x20, x21, x22, x23, x24, x25, x26, x27, x28, x29, x30, x31])), (1, .agg (kc ro rn rc [y0, y1, y2, y3, y4, y5, y6, y7, y8, y9, y10, y11, y12, y13, y14, y15, y16, y17, y18, y19, y20, y21, y22, y23, y24, y25, y26, y27, y28, y29, y30, y31]))] = some (pairC oo on oc [x0, x1, x2, x3, x4, x5, x6, x7, x8, x9, x10, x11, x12, x13, x14, x15, x16, x17, x18, x19, x20, x21, x22, x23, x24, x25, x26, x27, x28, x29, x30, x31] ro rn rc [y0, y1, y2, y3, y4, y5, y6, y7, y8, y9, y10, y11, y12, y13, y14, y15, y16, y17, y18, y19, y20, y21, y22, y23, y24, y25, y26, y27, y28, y29, y30, y31] none none) := by kernel_rfl
theorem built137w (oo : Option Addr) (on oc : Nat) (ro : Option Addr) (rn rc : Nat) (lp rp : Option Addr) (x0 x1 x2 x3 x4 x5 x6 x7 x8 x9 x10 x11 x12 x13 x14 x15 x16 x17 x18 x19 x20 x21 x22 x23 x24 x25 x26 x27 x28 x29 x30 x31 y0 y1 y2 y3 y4 y5 y6 y7 y8 y9 y10 y11 y12 y13 y14 y15 y16 y17 y18 y19 y20 y21 y22 y23 y24 y25 y26 y27 y28 y29 y30 y31 : UInt8) : Tryd.prog.built 137 [(0, .agg (kc oo on oc [x0, x1, x2, x3, x4, x5, x6, x7, x8, x9, x10, x11, x12, x13, x14, x15, x16, x17, x18, x19, x20, x21, x22, x23, x24, x25, x26, x27, x28, x29, x30, x31])), (1, .agg (kc ro rn rc [y0, y1, y2, y3, y4, y5, y6, y7, y8, y9, y10, y11, y12, y13, y14, y15, y16, y17, y18, y19, y20, y21, y22, y23, y24, y25, y26, y27, y28, y29, y30, y31])), (2, .pointer lp), (3, .pointer rp)] = some (pairC oo on oc [x0, x1, x2, x3, x4, x5, x6, x7, x8, x9, x10, x11, x12, x13, x14, x15, x16, x17, x18, x19, x20, x21, x22, x23, x24, x25, x26, x27, x28, x29, x30, x31] ro rn rc [y0, y1, y2, y3, y4, y5, y6, y7, y8, y9, y10, y11, y12, y13, y14, y15, y16, y17, y18, y19, y20, y21, y22, y23, y24, y25, y26, y27, y28, y29, y30, y31] lp rp) := by kernel_rfl
theorem built137 (oo : Option Addr) (on oc : Nat) (ro : Option Addr) (rn rc : Nat) : (d e : List UInt8) → d.length = 32 → e.length = 32 → Tryd.prog.built 137 [(0, .agg (kc oo on oc d)), (1, .agg (kc ro rn rc e))] = some (pairC oo on oc d ro rn rc e none none)
  | [x0, x1, x2, x3, x4, x5, x6, x7, x8, x9, x10, x11, x12, x13, x14, x15, x16, x17, x18, x19, x20, x21, x22, x23, x24, x25, x26, x27, x28, x29, x30, x31], [y0, y1, y2, y3, y4, y5, y6, y7, y8, y9, y10, y11, y12, y13, y14, y15, y16, y17, y18, y19, y20, y21, y22, y23, y24, y25, y26, y27, y28, y29, y30, y31], _, _ => built137v oo on oc ro rn rc x0 x1 x2 x3 x4 x5 x6 x7 x8 x9 x10 x11 x12 x13 x14 x15 x16 x17 x18 x19 x20 x21 x22 x23 x24 x25 x26 x27 x28 x29 x30 x31 y0 y1 y2 y3 y4 y5 y6 y7 y8 y9 y10 y11 y12 y13 y14 y15 y16 y17 y18 y19 y20 y21 y22 y23 y24 y25 y26 y27 y28 y29 y30 y31
theorem built137p (oo : Option Addr) (on oc : Nat) (ro : Option Addr) (rn rc : Nat) (lp rp : Option Addr) : (d e : List UInt8) → d.length = 32 → e.length = 32 → Tryd.prog.built 137 [(0, .agg (kc oo on oc d)), (1, .agg (kc ro rn rc e)), (2, .pointer lp), (3, .pointer rp)] = some (pairC oo on oc d ro rn rc e lp rp)
  | [x0, x1, x2, x3, x4, x5, x6, x7, x8, x9, x10, x11, x12, x13, x14, x15, x16, x17, x18, x19, x20, x21, x22, x23, x24, x25, x26, x27, x28, x29, x30, x31], [y0, y1, y2, y3, y4, y5, y6, y7, y8, y9, y10, y11, y12, y13, y14, y15, y16, y17, y18, y19, y20, y21, y22, y23, y24, y25, y26, y27, y28, y29, y30, y31], _, _ => built137w oo on oc ro rn rc lp rp x0 x1 x2 x3 x4 x5 x6 x7 x8 x9 x10 x11 x12 x13 x14 x15 x16 x17 x18 x19 x20 x21 x22 x23 x24 x25 x26 x27 x28 x29 x30 x31 y0 y1 y2 y3 y4 y5 y6 y7 y8 y9 y10 y11 y12 y13 y14 y15 y16 y17 y18 y19 y20 y21 y22 y23 y24 y25 y26 y27 y28 y29 y30 y31
/-- A pair's tree in memory, of blocks from base on. -/
def PairV (w : World) (base : Nat) : {k : Nat} → PT k → Option Addr → Prop
  | 0, _, p => p = none
  | k + 1, T, p => match (T : Option ((List UInt8 × List UInt8 × List UInt8 × List UInt8) × PT k × PT k)) with
    | none => p = none
    | some q => ∃ (g : Nat) (oo : Option Addr) (on oc : Nat) (ro : Option Addr) (rn rc : Nat) (lp rp : Option Addr), (p = some ⟨g, 0, none⟩ ∧ base ≤ g ∧ w.heap[g]? = some (.cells (pairC oo on oc q.1.2.2.1 ro rn rc q.1.2.2.2 lp rp) 137 (0, 0)) ∧ q.1.2.2.1.length = 32 ∧ q.1.2.2.2.length = 32) ∧ (TxV w oo on oc q.1.1 ∧ TxB base oo) ∧ (TxV w ro rn rc q.1.2.1 ∧ TxB base ro) ∧ PairV w base q.2.1 lp ∧ PairV w base q.2.2 rp
theorem PairV_nil {w : World} {base k : Nat} {p : Option Addr} : PairV w base (PT.nil : PT k) p ↔ p = none := by cases k <;> exact Iff.rfl
theorem PairV_mk {w : World} {base k : Nat} {ot rt od rd : List UInt8} {l r : PT k} {p : Option Addr} : PairV w base (PT.mk ot rt od rd l r) p ↔ ∃ (g : Nat) (oo : Option Addr) (on oc : Nat) (ro : Option Addr) (rn rc : Nat) (lp rp : Option Addr), (p = some ⟨g, 0, none⟩ ∧ base ≤ g ∧ w.heap[g]? = some (.cells (pairC oo on oc od ro rn rc rd lp rp) 137 (0, 0)) ∧ od.length = 32 ∧ rd.length = 32) ∧ (TxV w oo on oc ot ∧ TxB base oo) ∧ (TxV w ro rn rc rt ∧ TxB base ro) ∧ PairV w base l lp ∧ PairV w base r rp := Iff.rfl
theorem TxV.chg {w w' : World} {f n c base : Nat} {ao : Option Addr} {bs : List UInt8} (h : TxV w ao n c bs) (hb : TxB base ao) (hc : Chg f w w') (hf : f < base) : TxV w' ao n c bs :=
  ⟨⟨h.1.1, fun i u hu => by
    obtain ⟨x, hx, hce⟩ := h.1.2 i u hu
    refine ⟨x, hx, chg_cell hc hce ?_⟩
    have := hb x hx
    have e : (x.add i).block = x.block := by unfold Addr.add; split <;> rfl
    rw [e]; omega⟩, h.2⟩
theorem PairV.chg {w w' : World} {f base : Nat} (hc : Chg f w w') (hf : f < base) : ∀ {k : Nat} {T : PT k} {p : Option Addr}, PairV w base T p → PairV w' base T p := by
  intro k
  induction k with
  | zero => intro T p h; exact h
  | succ k ih =>
    intro T p h
    rcases PT.two T with rfl | ⟨ot, rt, od, rd, l, r, rfl⟩
    · exact PairV_nil.2 (PairV_nil.1 h)
    · obtain ⟨g, oo, on, oc, ro, rn, rc, lp, rp, ⟨h1, h2, h3, h4⟩, ⟨h5, h6⟩, ⟨h7, h8⟩, h9, h10⟩ := PairV_mk.1 h
      exact PairV_mk.2 ⟨g, oo, on, oc, ro, rn, rc, lp, rp, ⟨h1, h2, (hc.block g (Array.getElem?_eq_some_iff.1 h3).1 (by omega)).trans h3, h4⟩, ⟨h5.chg h6 hc hf, h6⟩, ⟨h7.chg h8 hc hf, h8⟩, ih h9, ih h10⟩
theorem PairV.below {w w' : World} {base B : Nat} (hb : Below B w w') (hB : w.heap.size ≤ B) : ∀ {k : Nat} {T : PT k} {p : Option Addr}, PairV w base T p → PairV w' base T p := by
  intro k
  induction k with
  | zero => intro T p h; exact h
  | succ k ih =>
    intro T p h
    rcases PT.two T with rfl | ⟨ot, rt, od, rd, l, r, rfl⟩
    · exact PairV_nil.2 (PairV_nil.1 h)
    · obtain ⟨g, oo, on, oc, ro, rn, rc, lp, rp, ⟨h1, h2, h3, h4⟩, ⟨h5, h6⟩, ⟨h7, h8⟩, h9, h10⟩ := PairV_mk.1 h
      exact PairV_mk.2 ⟨g, oo, on, oc, ro, rn, rc, lp, rp, ⟨h1, h2, (hb.block g (Nat.lt_of_lt_of_le (Array.getElem?_eq_some_iff.1 h3).1 hB)).trans h3, h4⟩, ⟨h5.below hb hB, h6⟩, ⟨h7.below hb hB, h8⟩, ih h9, ih h10⟩
theorem PairV.mono {w : World} {a b : Nat} (hab : a ≤ b) : ∀ {k : Nat} {T : PT k} {p : Option Addr}, PairV w b T p → PairV w a T p := by
  intro k
  induction k with
  | zero => intro T p h; exact h
  | succ k ih =>
    intro T p h
    rcases PT.two T with rfl | ⟨ot, rt, od, rd, l, r, rfl⟩
    · exact PairV_nil.2 (PairV_nil.1 h)
    · obtain ⟨g, oo, on, oc, ro, rn, rc, lp, rp, ⟨h1, h2, h3, h4⟩, ⟨h5, h6⟩, ⟨h7, h8⟩, h9, h10⟩ := PairV_mk.1 h
      exact PairV_mk.2 ⟨g, oo, on, oc, ro, rn, rc, lp, rp, ⟨h1, by omega, h3, h4⟩, ⟨h5, h6.mono hab⟩, ⟨h7, h8.mono hab⟩, ih h9, ih h10⟩
/-- The cells of a pair, one by one. -/
theorem pair_rows {w : World} {g : Nat} {oo : Option Addr} {on oc : Nat} {od : List UInt8} {ro : Option Addr} {rn rc : Nat} {rd : List UInt8} {lp rp : Option Addr} {t : TypeId} {fr : Nat × Nat} (h : w.heap[g]? = some (.cells (pairC oo on oc od ro rn rc rd lp rp) t fr)) (h1 : od.length = 32) (h2 : rd.length = 32) :
    w.rangeAt g 0 (Value.slice oo on oc :: cellsOf od) ∧ w.rangeAt g 33 (Value.slice ro rn rc :: cellsOf rd) ∧ w.cell? ⟨g, 66, none⟩ = some (.pointer lp) ∧ w.cell? ⟨g, 67, none⟩ = some (.pointer rp) := by
  have l1 : (Value.slice oo on oc :: cellsOf od).length = 33 := by rw [List.length_cons, cellsOf_length, h1]
  have l2 : (Value.slice ro rn rc :: cellsOf rd).length = 33 := by rw [List.length_cons, cellsOf_length, h2]
  refine ⟨fun j v hv => ?_, fun j v hv => ?_, ?_, ?_⟩
  · rw [cell_of_row _ _ _ _ _ _ h, pairC, List.getElem?_toArray, Nat.zero_add, List.getElem?_append_left (List.getElem?_eq_some_iff.1 hv).1]; exact hv
  · rw [cell_of_row _ _ _ _ _ _ h, pairC, List.getElem?_toArray, List.getElem?_append_right (by omega), l1, show 33 + j - 33 = j by omega, List.getElem?_append_left (List.getElem?_eq_some_iff.1 hv).1]; exact hv
  · rw [cell_of_row _ _ _ _ _ _ h, pairC, List.getElem?_toArray, List.getElem?_append_right (by omega), l1, List.getElem?_append_right (by omega), l2]; rfl
  · rw [cell_of_row _ _ _ _ _ _ h, pairC, List.getElem?_toArray, List.getElem?_append_right (by omega), l1, List.getElem?_append_right (by omega), l2]; rfl
/-- The cells of an opening. -/
def opC (z : Int) (ro : Option Addr) (rn rc : Nat) (x : Int) (qo : Option Addr) (qn qc : Nat) (po : Option Addr) (pn pc : Nat) : Array Value := #[.int .i64 z, .slice ro rn rc, .int .i64 x, .slice qo qn qc, .slice po pn pc]
theorem op_cells {w : World} {f : Nat} {z : Int} {ro : Option Addr} {rn rc : Nat} {x : Int} {qo : Option Addr} {qn qc : Nat} {po : Option Addr} {pn pc : Nat} (h : w.heap[f]? = some (.cells (opC z ro rn rc x qo qn qc po pn pc) 109 (0, 0))) :
    w.cell? ⟨f, 0, none⟩ = some (.int .i64 z) ∧ w.cell? ⟨f, 1, none⟩ = some (.slice ro rn rc) ∧ w.cell? ⟨f, 2, none⟩ = some (.int .i64 x) ∧ w.cell? ⟨f, 3, none⟩ = some (.slice qo qn qc) ∧ w.cell? ⟨f, 4, none⟩ = some (.slice po pn pc) :=
  ⟨by rw [cell_of_row _ _ 0 _ _ _ h]; rfl, by rw [cell_of_row _ _ 1 _ _ _ h]; rfl, by rw [cell_of_row _ _ 2 _ _ _ h]; rfl, by rw [cell_of_row _ _ 3 _ _ _ h]; rfl, by rw [cell_of_row _ _ 4 _ _ _ h]; rfl⟩
theorem set_opath {w : World} {f : Nat} {z : Int} {ro : Option Addr} {rn rc : Nat} {x : Int} {qo : Option Addr} {qn qc : Nat} {po : Option Addr} {pn pc : Nat} (h : w.heap[f]? = some (.cells (opC z ro rn rc x qo qn qc po pn pc) 109 (0, 0))) (po' : Option Addr) (pn' pc' : Nat) :
    (w.setCell ⟨f, 4, none⟩ (.slice po' pn' pc')).heap[f]? = some (.cells (opC z ro rn rc x qo qn qc po' pn' pc') 109 (0, 0)) ∧ Chg f w (w.setCell ⟨f, 4, none⟩ (.slice po' pn' pc')) := by
  refine ⟨?_, rfl, rfl, rfl, by unfold World.setCell; simp, fun q _ hq => ?_⟩
  · unfold World.setCell
    dsimp only
    rw [Array.getElem?_modify, if_pos rfl, h]
    rfl
  · unfold World.setCell
    dsimp only
    rw [Array.getElem?_modify, if_neg (by omega)]
end Go.Proofs.YtaebpnednhkfhaaDoor
namespace Go.Proofs.YtaebpnednhkfhaaDoor
open Go.RowKit
set_option maxHeartbeats 4000000 in
set_option maxRecDepth 100000 in
theorem beside_any {k : Nat} (a b : Nat) (z : Int) (rb rf rn rc : Nat) (x0 : Int) (qo : Option Addr) (qn qc f pb po pn pc : Nat) (x rt : List UInt8) (w : World) (hab : a < b) (hbn : b ≤ rn) (hnc : rn ≤ rc) (hf : w.heap[f]? = some (.cells (opC z (some ⟨rb, rf, none⟩) rn rc x0 qo qn qc (some ⟨pb, po, none⟩) pn pc) 109 (0, 0))) (hp : 0 < pn) (hpc : pn ≤ pc)
    (hx : w.rangeAt pb po (cellsOf x)) (hxl : x.length = 32) (hrl : rt.length = 32) (nx : Option Addr) (hnx : (if pc = 1 then some (⟨pb, po, none⟩ : Addr) else some ⟨pb, po + 32, none⟩) = nx)
    (hRO : ∀ W, Chg f w W → Calls Tryd.prog 23 #[.agg #[.int .i64 z], .slice (some ⟨rb, rf + a, none⟩) (b - a) (rc - a)] W fun e w' => e = .returned (dv rt) ∧ Below W.heap.size W w') :
    Calls Tryd.prog 92 #[.pointer (some ⟨f, 0, none⟩), .int .i64 (a : Int), .int .i64 (b : Int)] w fun e w' => ∃ p, e = .returned (.pointer p) ∧ PairV w' w.heap.size (.mk [] [] x rt (.nil : PT k) .nil) p ∧ w'.heap[f]? = some (.cells (opC z (some ⟨rb, rf, none⟩) rn rc x0 qo qn qc nx (pn - 1) (pc - 1)) 109 (0, 0)) ∧ Chg f w w' := by
  have HNX : Hid ((if pc = 1 then some (⟨pb, po, none⟩ : Addr) else some ⟨pb, po + 32, none⟩) = nx) := hnx
  have y1 := zi (Nat.le_of_lt hab)
  have y2 := zi (Nat.le_trans hbn hnc)
  have y3 := zl (Nat.lt_of_lt_of_le hab (Nat.le_trans hbn hnc))
  have hra : ¬ rc = a := by omega
  have HFW : Hid _ := hf
  have HX : Hid (w.rangeAt pb po (cellsOf x)) := hx
  have HXL : Hid (x.length = 32) := hxl
  have HRL : Hid (rt.length = 32) := hrl
  have HFL : Hid (f < w.heap.size) := (Array.getElem?_eq_some_iff.1 hf).1
  have HRO : Hid (∀ W, Chg f w W → Calls Tryd.prog 23 #[.agg #[.int .i64 z], .slice (some ⟨rb, rf + a, none⟩) (b - a) (rc - a)] W fun e w' => e = .returned (.agg (cellsOf rt).toArray) ∧ Below W.heap.size W w') := hRO
  have HID : Hid ((Tryd.prog.info? 24).map (·.size) = some (cellsOf x).length) := by show _ = _; rw [size24, cellsOf_length, HXL.out]
  have hpz : (0 : Int) < (pn : Int) := by omega
  have HN1 : Hid ((w.alloc (.cells #[Value.int IntKind.u8 0, Value.int IntKind.u8 0, Value.int IntKind.u8 0, Value.int IntKind.u8 0, Value.int IntKind.u8 0, Value.int IntKind.u8 0, Value.int IntKind.u8 0, Value.int IntKind.u8 0, Value.int IntKind.u8 0, Value.int IntKind.u8 0, Value.int IntKind.u8 0, Value.int IntKind.u8 0, Value.int IntKind.u8 0, Value.int IntKind.u8 0, Value.int IntKind.u8 0, Value.int IntKind.u8 0, Value.int IntKind.u8 0, Value.int IntKind.u8 0, Value.int IntKind.u8 0, Value.int IntKind.u8 0, Value.int IntKind.u8 0, Value.int IntKind.u8 0, Value.int IntKind.u8 0, Value.int IntKind.u8 0, Value.int IntKind.u8 0, Value.int IntKind.u8 0, Value.int IntKind.u8 0, Value.int IntKind.u8 0, Value.int IntKind.u8 0, Value.int IntKind.u8 0, Value.int IntKind.u8 0, Value.int IntKind.u8 0] 24)).heap[w.heap.size]? = some (.cells #[Value.int IntKind.u8 0, Value.int IntKind.u8 0, Value.int IntKind.u8 0, Value.int IntKind.u8 0, Value.int IntKind.u8 0, Value.int IntKind.u8 0, Value.int IntKind.u8 0, Value.int IntKind.u8 0, Value.int IntKind.u8 0, Value.int IntKind.u8 0, Value.int IntKind.u8 0, Value.int IntKind.u8 0, Value.int IntKind.u8 0, Value.int IntKind.u8 0, Value.int IntKind.u8 0, Value.int IntKind.u8 0, Value.int IntKind.u8 0, Value.int IntKind.u8 0, Value.int IntKind.u8 0, Value.int IntKind.u8 0, Value.int IntKind.u8 0, Value.int IntKind.u8 0, Value.int IntKind.u8 0, Value.int IntKind.u8 0, Value.int IntKind.u8 0, Value.int IntKind.u8 0, Value.int IntKind.u8 0, Value.int IntKind.u8 0, Value.int IntKind.u8 0, Value.int IntKind.u8 0, Value.int IntKind.u8 0, Value.int IntKind.u8 0] 24 (0, 0))) := heap_alloc_new w _
  obtain ⟨f0, f1, f2, f3, f4⟩ := op_cells hf
  clear hnx hab hbn hnc hf hx hxl hrl hRO
  go_enter Tryd.func92, Tryd.ntmps92
  go_upto_region 2 with (first | (refine wpList_load_mid rfl 24 (.tmp 12) rfl pb po rfl (cellsOf x) _ HX.out Tryd.underlying24 rfl HID.out ?_) | (refine wpList_store_row rfl 24 (.tmp 7) (.tmp 13) rfl w.heap.size (cellsOf x).toArray rfl rfl 24 _ HN1.out (by rw [size24, dig_size HXL.out]) (by rw [dig_size HXL.out]; rfl) (cells_all _) ?_))
  have HR2 := setRow_heap _ _ _ (cellsOf x).toArray _ _ HN1.out
  have HB2 : Below w.heap.size w ((w.alloc (.cells #[Value.int IntKind.u8 0, Value.int IntKind.u8 0, Value.int IntKind.u8 0, Value.int IntKind.u8 0, Value.int IntKind.u8 0, Value.int IntKind.u8 0, Value.int IntKind.u8 0, Value.int IntKind.u8 0, Value.int IntKind.u8 0, Value.int IntKind.u8 0, Value.int IntKind.u8 0, Value.int IntKind.u8 0, Value.int IntKind.u8 0, Value.int IntKind.u8 0, Value.int IntKind.u8 0, Value.int IntKind.u8 0, Value.int IntKind.u8 0, Value.int IntKind.u8 0, Value.int IntKind.u8 0, Value.int IntKind.u8 0, Value.int IntKind.u8 0, Value.int IntKind.u8 0, Value.int IntKind.u8 0, Value.int IntKind.u8 0, Value.int IntKind.u8 0, Value.int IntKind.u8 0, Value.int IntKind.u8 0, Value.int IntKind.u8 0, Value.int IntKind.u8 0, Value.int IntKind.u8 0, Value.int IntKind.u8 0, Value.int IntKind.u8 0] 24)).setRow w.heap.size (cellsOf x).toArray) := below_row (bel_alloc w _) (Nat.le_refl _) _
  obtain ⟨W2, HW2⟩ : ∃ W, Hid ((w.alloc (.cells #[Value.int IntKind.u8 0, Value.int IntKind.u8 0, Value.int IntKind.u8 0, Value.int IntKind.u8 0, Value.int IntKind.u8 0, Value.int IntKind.u8 0, Value.int IntKind.u8 0, Value.int IntKind.u8 0, Value.int IntKind.u8 0, Value.int IntKind.u8 0, Value.int IntKind.u8 0, Value.int IntKind.u8 0, Value.int IntKind.u8 0, Value.int IntKind.u8 0, Value.int IntKind.u8 0, Value.int IntKind.u8 0, Value.int IntKind.u8 0, Value.int IntKind.u8 0, Value.int IntKind.u8 0, Value.int IntKind.u8 0, Value.int IntKind.u8 0, Value.int IntKind.u8 0, Value.int IntKind.u8 0, Value.int IntKind.u8 0, Value.int IntKind.u8 0, Value.int IntKind.u8 0, Value.int IntKind.u8 0, Value.int IntKind.u8 0, Value.int IntKind.u8 0, Value.int IntKind.u8 0, Value.int IntKind.u8 0, Value.int IntKind.u8 0] 24)).setRow w.heap.size (cellsOf x).toArray = W) := ⟨_, rfl⟩
  rw [HW2.out] at HR2 HB2 ⊢
  have HR2 : Hid _ := HR2
  have HB2 : Hid (Below w.heap.size w W2) := HB2
  have HF2 : Hid (W2.heap[f]? = some (.cells (opC z (some ⟨rb, rf, none⟩) rn rc x0 qo qn qc (some ⟨pb, po, none⟩) pn pc) 109 (0, 0))) := (HB2.out.block _ HFL.out).trans HFW.out
  clear HW2 HN1 f0 f1 f2 f3 f4
  obtain ⟨f0, f1, f2, f3, f4⟩ := op_cells HF2.out
  have z4 := frozen_of_row W2 f 4 _ _ HF2.out
  have hp1 : (1 : Int) ≤ (pn : Int) := by omega
  have hp2 : (pn : Int) ≤ (pc : Int) := by omega
  go_upto_region 3 with fail
  rw [HNX.out]
  obtain ⟨g1, g2⟩ := set_opath HF2.out nx (pn - 1) (pc - 1)
  obtain ⟨W3, HW3⟩ : ∃ W, Hid (W2.setCell ⟨f, 4, none⟩ (.slice nx (pn - 1) (pc - 1)) = W) := ⟨_, rfl⟩
  rw [HW3.out] at g1 g2 ⊢
  have HG1 : Hid _ := g1
  have HG2 : Hid (Chg f W2 W3) := g2
  have HX3 : Hid (W3.heap[w.heap.size]? = some (.cells (cellsOf x).toArray 24 (0, 0))) := (g2.block _ (Array.getElem?_eq_some_iff.1 HR2.out).1 (by have := HFL.out; omega)).trans HR2.out
  have HC3 : Hid (Chg f w W3) := (chg_of_below HB2.out (Nat.le_refl _)).trans g2
  clear g1 g2 HW3 z4 hp1 hp2 f0 f1 f2 f3 f4
  have HS3 : Hid (∀ W, Below W3.heap.size W3 W → W.cell? ⟨f, 0, none⟩ = some (.int .i64 z) ∧ W.cell? ⟨f, 1, none⟩ = some (.slice (some ⟨rb, rf, none⟩) rn rc) ∧ W.rangeAt w.heap.size 0 (cellsOf x)) := fun W hW =>
    ⟨bel_cell2 hW (Nat.le_refl _) (op_cells HG1.out).1, bel_cell2 hW (Nat.le_refl _) (op_cells HG1.out).2.1, range_bel (range_of HX3.out) hW (Nat.le_refl _)⟩
  obtain ⟨k1, HK1⟩ : ∃ k, Hid (kc none 0 0 x = k) := ⟨_, rfl⟩
  obtain ⟨k2, HK2⟩ : ∃ k, Hid (kc none 0 0 rt = k) := ⟨_, rfl⟩
  obtain ⟨k3, HK3⟩ : ∃ k, Hid (pairC none 0 0 x none 0 0 rt none none = k) := ⟨_, rfl⟩
  have HBD1 : Hid (Tryd.prog.built 134 [(1, .agg (cellsOf x).toArray)] = some k1) := by show _ = _; rw [← HK1.out]; exact built134s x HXL.out
  have HBD2 : Hid (Tryd.prog.built 134 [(1, .agg (cellsOf rt).toArray)] = some k2) := by show _ = _; rw [← HK2.out]; exact built134s rt HRL.out
  have HBD3 : Hid (Tryd.prog.built 137 [(0, .agg k1), (1, .agg k2)] = some k3) := by show _ = _; rw [← HK1.out, ← HK2.out, ← HK3.out]; exact built137 none 0 0 none 0 0 x rt HXL.out HRL.out
  refine wp_region_held_drew (S := fun W => W.cell? ⟨f, 0, none⟩ = some (.int .i64 z) ∧ W.cell? ⟨f, 1, none⟩ = some (.slice (some ⟨rb, rf, none⟩) rn rc) ∧ W.rangeAt w.heap.size 0 (cellsOf x)) (by kernel_rfl) (HS3.out _ (Below.drew (Below.refl _ _))) (fun hS => ?_)
  refine wpAnyH_take (i := 0) (v := .agg (cellsOf x).toArray) rfl (by kernel_rfl) (by kernel_rfl) (by kernel_rfl) (fun _ _ _ h => h) (yieldsIf_load_mid (by rfl) 24 (.tmp 7) rfl w.heap.size 0 rfl (cellsOf x) _ (fun _ h => h.2.2) Tryd.underlying24 rfl HID.out) (by assumption) ?_
  simp only [Act.put, List.getElem_toArray, List.getElem_cons_zero, List.setIfInBounds_toArray, List.set_cons_zero, List.set_cons_succ]
  refine wpAnyH_take (i := 1) (v := .agg k1) rfl (by kernel_rfl) (by kernel_rfl) (by kernel_rfl) (fun _ _ _ h => h) (yieldsIf_build (by rfl) 134 #[(1, .tmp 22)] rfl k1 _ HBD1.out rfl) (by assumption) ?_
  simp only [Act.put, List.getElem_toArray, List.getElem_cons_zero, List.getElem_cons_succ, List.setIfInBounds_toArray, List.set_cons_zero, List.set_cons_succ]
  refine wpAnyH_take (i := 2) (v := ?_) rfl (by kernel_rfl) (by kernel_rfl) (by kernel_rfl) (fun _ _ _ h => h) (Or.inl ⟨by rfl, ?_⟩) (by assumption) ?_
  rotate_left
  · (intro w hSw; (try dsimp only at hSw); go_simp; try with_reducible rfl)
  simp only [Act.put, List.getElem_toArray, List.getElem_cons_zero, List.getElem_cons_succ, List.setIfInBounds_toArray, List.set_cons_zero, List.set_cons_succ]
  refine wpAnyH_take (i := 3) (v := ?_) rfl (by kernel_rfl) (by kernel_rfl) (by kernel_rfl) (fun _ _ _ h => h) (Or.inl ⟨by rfl, ?_⟩) (by assumption) ?_
  rotate_left
  · (intro w hSw; (try dsimp only at hSw); go_simp; try with_reducible rfl)
  simp only [Act.put, List.getElem_toArray, List.getElem_cons_zero, List.getElem_cons_succ, List.setIfInBounds_toArray, List.set_cons_zero, List.set_cons_succ]
  refine wpAnyH_take (i := 4) (v := ?_) rfl (by kernel_rfl) (by kernel_rfl) (by kernel_rfl) (fun _ _ _ h => h) (Or.inl ⟨by rfl, ?_⟩) (by assumption) ?_
  rotate_left
  · (intro w hSw; (try dsimp only at hSw); go_simp; try with_reducible rfl)
  simp only [Act.put, List.getElem_toArray, List.getElem_cons_zero, List.getElem_cons_succ, List.setIfInBounds_toArray, List.set_cons_zero, List.set_cons_succ]
  refine wpAnyH_take (i := 5) (v := ?_) rfl (by kernel_rfl) (by kernel_rfl) (by kernel_rfl) (fun _ _ _ h => h) (Or.inl ⟨by rfl, ?_⟩) (by assumption) ?_
  rotate_left
  · (intro w hSw; (try dsimp only at hSw); go_simp; try with_reducible rfl)
  simp only [Act.put, List.getElem_toArray, List.getElem_cons_zero, List.getElem_cons_succ, List.setIfInBounds_toArray, List.set_cons_zero, List.set_cons_succ]
  refine wpAnyH_take (i := 6) (v := ?_) rfl (by kernel_rfl) (by kernel_rfl) (by kernel_rfl) (fun _ _ _ h => h) (Or.inl ⟨by rfl, ?_⟩) (by assumption) ?_
  rotate_left
  · (intro w hSw; (try dsimp only at hSw); go_simp; try with_reducible rfl)
  simp only [Act.put, List.getElem_toArray, List.getElem_cons_zero, List.getElem_cons_succ, List.setIfInBounds_toArray, List.set_cons_zero, List.set_cons_succ]
  refine wpAnyH_take (i := 7) (v := ?_) rfl (by kernel_rfl) (by kernel_rfl) (by kernel_rfl) (fun _ _ _ h => h) (Or.inl ⟨by rfl, ?_⟩) (by assumption) ?_
  rotate_left
  · (intro w hSw; (try dsimp only at hSw); go_simp; try with_reducible rfl)
  simp only [Act.put, List.getElem_toArray, List.getElem_cons_zero, List.getElem_cons_succ, List.setIfInBounds_toArray, List.set_cons_zero, List.set_cons_succ]
  refine wpAnyH_take (i := 8) (v := ?_) rfl (by kernel_rfl) (by kernel_rfl) (by kernel_rfl) (fun _ _ _ h => h) (Or.inl ⟨by rfl, ?_⟩) (by assumption) ?_
  rotate_left
  · (intro w hSw; (try dsimp only at hSw); go_simp; try with_reducible rfl)
  simp only [Act.put, List.getElem_toArray, List.getElem_cons_zero, List.getElem_cons_succ, List.setIfInBounds_toArray, List.set_cons_zero, List.set_cons_succ]
  refine wpAnyH_take (i := 9) (v := ?_) rfl (by kernel_rfl) (by kernel_rfl) (by kernel_rfl) (fun _ _ _ h => h) (Or.inl ⟨by rfl, ?_⟩) (by assumption) ?_
  rotate_left
  · (intro w hSw; (try dsimp only at hSw); go_simp; try with_reducible rfl)
  simp only [Act.put, List.getElem_toArray, List.getElem_cons_zero, List.getElem_cons_succ, List.setIfInBounds_toArray, List.set_cons_zero, List.set_cons_succ]
  refine wpAnyH_take (i := 10) (v := ?_) rfl (by kernel_rfl) (by kernel_rfl) (by kernel_rfl) (fun _ _ _ h => h) (Or.inl ⟨by rfl, ?_⟩) (by assumption) ?_
  rotate_left
  · (intro w hSw; (try dsimp only at hSw); go_simp; try with_reducible rfl)
  simp only [Act.put, List.getElem_toArray, List.getElem_cons_zero, List.getElem_cons_succ, List.setIfInBounds_toArray, List.set_cons_zero, List.set_cons_succ]
  refine wpAnyH_take (i := 11) (v := ?_) rfl (by kernel_rfl) (by kernel_rfl) (by kernel_rfl) (fun _ _ _ h => h) (Or.inl ⟨by rfl, ?_⟩) (by assumption) ?_
  rotate_left
  · (intro w hSw; (try dsimp only at hSw); go_simp; try with_reducible rfl)
  simp only [Act.put, List.getElem_toArray, List.getElem_cons_zero, List.getElem_cons_succ, List.setIfInBounds_toArray, List.set_cons_zero, List.set_cons_succ]
  refine wpAnyH_take (i := 12) (v := ?_) rfl (by kernel_rfl) (by kernel_rfl) (by kernel_rfl) (fun _ _ _ h => h) (Or.inl ⟨by rfl, ?_⟩) (by assumption) ?_
  rotate_left
  · (intro w hSw; (try dsimp only at hSw); go_simp; try with_reducible rfl)
  simp only [Act.put, List.getElem_toArray, List.getElem_cons_zero, List.getElem_cons_succ, List.setIfInBounds_toArray, List.set_cons_zero, List.set_cons_succ]
  refine wpAnyH_ready (rs := [13]) (by kernel_rfl) (by simp) ?_
  refine AllReadyH.cons rfl (fun K hK => ?_) AllReadyH.nil
  go_simp
  refine (HRO.out _ HC3.out.drew).mono ?_
  rintro e w4 ⟨rfl, hb4⟩
  have HB4 : Hid (Below W3.heap.size W3 w4) := (Below.drew (Below.refl _ _)).trans hb4
  go_wp2_with fail
  refine hK.out _ _ (HS3.out _ HB4.out) (fun hHeld2 => ?_)
  clear hK K hb4
  refine wpAnyH_take (i := 14) (v := .agg k2) rfl (by kernel_rfl) (by kernel_rfl) (by kernel_rfl) (fun _ _ _ h => h) (yieldsIf_build (by rfl) 134 #[(1, .tmp 35)] rfl k2 _ HBD2.out rfl) (by assumption) ?_
  simp only [Act.put, List.getElem_toArray, List.getElem_cons_zero, List.getElem_cons_succ, List.setIfInBounds_toArray, List.set_cons_zero, List.set_cons_succ]
  refine wpAnyH_take (i := 15) (v := .agg k3) rfl (by kernel_rfl) (by kernel_rfl) (by kernel_rfl) (fun _ _ _ h => h) (yieldsIf_build (by rfl) 137 #[(0, .tmp 23), (1, .tmp 36)] rfl k3 _ HBD3.out rfl) (by assumption) ?_
  simp only [Act.put, List.getElem_toArray, List.getElem_cons_zero, List.getElem_cons_succ, List.setIfInBounds_toArray, List.set_cons_zero, List.set_cons_succ]
  refine wpAnyH_ready (rs := [16]) (by kernel_rfl) (by simp) ?_
  refine AllReadyH.cons rfl (fun K hK => ?_) AllReadyH.nil
  go_simp
  refine hK.out _ _ (HS3.out _ (HB4.out.alloc HB4.out.size _)) (fun hHeld2 => ?_)
  clear hK K
  refine wpAnyH_take (i := 17) (v := ?_) rfl (by kernel_rfl) (by kernel_rfl) (by kernel_rfl) (fun _ _ _ h => h) (Or.inl ⟨by rfl, ?_⟩) (by assumption) ?_
  rotate_left
  · (intro w hSw; (try dsimp only at hSw); go_simp; try with_reducible rfl)
  simp only [Act.put, List.getElem_toArray, List.getElem_cons_zero, List.getElem_cons_succ, List.setIfInBounds_toArray, List.set_cons_zero, List.set_cons_succ]
  refine wpAnyH_done (by kernel_rfl) ?_ _
  clear hS hHeld2
  go_wp2_with fail
  go_ret
  have hN := heap_alloc_new w4 (.cells k3 137)
  rw [← HK3.out] at hN ⊢
  have hsz : w.heap.size ≤ w4.heap.size := Nat.le_trans HC3.out.size HB4.out.size
  have hC4 : Chg f w (w4.alloc (.cells (pairC none 0 0 x none 0 0 rt none none) 137)) := HC3.out.trans (chg_of_below (HB4.out.alloc HB4.out.size _) (Nat.le_refl _))
  refine ⟨_, rfl, ⟨w4.heap.size, none, 0, 0, none, 0, 0, none, none, ⟨rfl, hsz, hN, HXL.out, HRL.out⟩, ⟨txv_nil _, fun x h => by cases h⟩, ⟨txv_nil _, fun x h => by cases h⟩, PairV_nil.2 rfl, PairV_nil.2 rfl⟩, ?_, hC4⟩
  rw [(HB4.out.alloc HB4.out.size _).block f (Nat.lt_of_lt_of_le HFL.out HC3.out.size)]
  exact HG1.out
end Go.Proofs.YtaebpnednhkfhaaDoor
