/-
  What marlstoneref11.Describe answers: a contract over this translation.
-/
import Derived.Test.YtcgjhopfdpaocaaDoorTbRl
namespace Go.Proofs.YtcgjhopfdpaocaaDoor
open Go.RowKit Go.Sort Go.Shelf
set_option linter.unusedSectionVars false
variable [Inhabited E] [DecidableEq E]
theorem bytesB_len4 (e : E) : (bytesB e).length ≤ 1500 := by
  unfold bytesB
  by_cases h : rightB e = true
  · obtain ⟨h1, h2, qn, h3, h4, h5⟩ := right_parts h
    have a1 := putB_le e.seq.toNat
    have a2 := textB_len2 e.key
    have a3 := textB_len2 e.value
    rw [if_pos h]
    split <;> simp only [headB, List.length_append, List.length_cons] <;> omega
  · rw [if_neg h]; simp
set_option maxRecDepth 100000 in
set_option maxHeartbeats 4000000 in
theorem refDescribe_wrong (z lv : Int) (ao : Option Addr) (n c : Nat) (es : List E) (w : World) (hE : EntsV w ao n es) (hsm : Small es) (hn : n ≤ 1000) (hno : ¬ (fitB es = true ∧ 0 ≤ lv ∧ lv < 4)) :
    Calls Tryd.prog 16 #[.int .i64 z, .int .i64 lv, .slice ao n c] w fun e w' => e = .returned (.tuple #[.agg zeroT, .int .i64 1]) ∧ Below w.heap.size w w' := by
  have HF : Hid (∀ W, Below w.heap.size w W → Calls Tryd.prog 35 #[.slice ao n c] W fun e w' => e = .returned (.bool (fitB es)) ∧ Below W.heap.size W w') := fun W hW => refFit_any ao n c es W (hE.below hW (Nat.le_refl _)) hsm (by omega)
  obtain ⟨f, HFF⟩ : ∃ f, Hid (fitB es = f) := ⟨_, rfl⟩
  rw [HFF.out] at HF hno
  have hz : (zeroT).size = 36 := tabC_size 0 0 (by simp) _ _
  have HZ : Hid _ := hz
  clear hE hsm
  go_enter Tryd.func16, Tryd.ntmps16
  go_wp2_with fail
  refine (HF.out _ ((Below.refl _ w).alloc (Nat.le_refl _) _)).mono ?_
  rintro e w1 ⟨rfl, hb1⟩
  have hR : w1.heap[w.heap.size]? = some (.cells zeroT 34 (0, 0)) := by
    rw [hb1.block _ (by simp)]
    exact World.alloc_heap_new w (.cells zeroT 34)
  have HR : Hid _ := hR
  have HB : Hid (Below w.heap.size w w1) := ((Below.refl _ w).alloc (Nat.le_refl _) _).trans (hb1.mono (by simp))
  clear hb1 hR hz
  cases f with
  | false =>
    go_upto_region 3 with fail
    go_wp2_with (refine wpList_store_row rfl 34 (.tmp 6) (.tmp 21) rfl (w.heap.size) zeroT rfl rfl 34 zeroT HR.out (by rw [size34, HZ.out]) rfl (tabC_all _ _ _ _ _) ?_)
    refine bodyPost_ret (results_tab rfl _ _ (w.heap.size) 34 zeroT (0, 0) rfl (setRow_heap _ _ _ _ _ _ HR.out) (by rw [size34, HZ.out])) rfl ?_
    exact ⟨rfl, below_setRow HB.out (Nat.le_refl _) _⟩
  | true =>
    by_cases h0 : lv < 0
    · go_upto_region 3 with fail
      go_wp2_with (refine wpList_store_row rfl 34 (.tmp 6) (.tmp 21) rfl (w.heap.size) zeroT rfl rfl 34 zeroT HR.out (by rw [size34, HZ.out]) rfl (tabC_all _ _ _ _ _) ?_)
      refine bodyPost_ret (results_tab rfl _ _ (w.heap.size) 34 zeroT (0, 0) rfl (setRow_heap _ _ _ _ _ _ HR.out) (by rw [size34, HZ.out])) rfl ?_
      exact ⟨rfl, below_setRow HB.out (Nat.le_refl _) _⟩
    · have h4 : ¬ lv < 4 := fun h => hno ⟨rfl, by omega, h⟩
      have h4b : 4 ≤ lv := by omega
      clear hno
      go_upto_region 3 with fail
      go_wp2_with (refine wpList_store_row rfl 34 (.tmp 6) (.tmp 21) rfl (w.heap.size) zeroT rfl rfl 34 zeroT HR.out (by rw [size34, HZ.out]) rfl (tabC_all _ _ _ _ _) ?_)
      refine bodyPost_ret (results_tab rfl _ _ (w.heap.size) 34 zeroT (0, 0) rfl (setRow_heap _ _ _ _ _ _ HR.out) (by rw [size34, HZ.out])) rfl ?_
      exact ⟨rfl, below_setRow HB.out (Nat.le_refl _) _⟩
set_option maxRecDepth 100000 in
set_option maxHeartbeats 4000000 in
theorem refDescribe_some (z lv : Int) (b off n c : Nat) (es : List E) (w : World) (hE : EntsV w (some ⟨b, off, none⟩) n es) (hf : fitB es = true) (hlv : 0 ≤ lv ∧ lv < 4) (hz : -9223372036854775808 ≤ z ∧ z ≤ 9223372036854775807) (hlow : b < w.heap.size) :
    Calls Tryd.prog 16 #[.int .i64 z, .int .i64 lv, .slice (some ⟨b, off, none⟩) n c] w fun e w' => e = .returned (.tuple #[.agg (tabC lv es.length (Sm.rootD z (es.map bytesB)) es[0]!.key es[es.length - 1]!.key), .int .i64 0]) ∧ Below w.heap.size w w' := by
  have hsm := right_small (fit_all hf)
  have hlen := fit_len hf
  have hln := hE.1
  have HLOW : Hid (b < w.heap.size) := hlow
  clear hlow
  have HF : Hid (∀ W, Below w.heap.size w W → Calls Tryd.prog 35 #[.slice (some ⟨b, off, none⟩) n c] W fun e w' => e = .returned (.bool true) ∧ Below W.heap.size W w') := fun W hW => by
    have := refFit_any (some ⟨b, off, none⟩) n c es W (hE.below hW (Nat.le_refl _)) hsm (by omega)
    rw [hf] at this; exact this
  have HLV : Hid (∀ W, Below w.heap.size w W → Calls Tryd.prog 18 #[.slice (some ⟨b, off, none⟩) n c] W fun e w' => ∃ v, e = .returned v ∧ w'.ownsRow W.heap.size 9 1 v n (Sm.strC (strE es)) ∧ Below W.heap.size W w') := fun W hW => refLeavesT_any (some ⟨b, off, none⟩) n c es W (hE.below hW (Nat.le_refl _)) hsm (by omega)
  obtain ⟨d, HD⟩ : ∃ d, Hid (Sm.rootD z (es.map bytesB) = d) := ⟨_, rfl⟩
  have HDL : Hid (d.length = 32) := by show _ = _; rw [← HD.out]; exact Sm.rootD_length _ _
  have HRT : Hid (∀ W ao cc, Below w.heap.size w W → Sm.StrV W ao n cc (strE es) → Calls Tryd.prog 40 #[.int .i64 z, .slice ao n cc] W fun e w' => e = .returned (.agg (cellsOf d).toArray) ∧ Below W.heap.size W w') := fun W ao cc hW hL => by
    have := Sm.refRoot_any z hz n ao cc (strE es) W hL (by omega) (fun s hs => by
      obtain ⟨e0, -, rfl⟩ := List.mem_map.1 hs
      have := bytesB_len4 e0
      show (bytesB e0).toArray.size ≤ _
      simpa using this)
    rw [strE_B, HD.out] at this; exact this
  obtain ⟨k1, HK1⟩ : ∃ k, Hid (es[0]!.key = k) := ⟨_, rfl⟩
  obtain ⟨k2, HK2⟩ : ∃ k, Hid (es[es.length - 1]!.key = k) := ⟨_, rfl⟩
  obtain ⟨b', off', hao, hEn⟩ := hE.2 (by omega)
  cases hao
  have HCELL : Hid (∀ W, Below w.heap.size w W → W.cell? ⟨b, off, none⟩ = some (.string k1) ∧ W.cell? ⟨b, off + (n - 1) * 4, none⟩ = some (.string k2)) := fun W hW => by
    have hE2 : Ents W b off es := hEn.below hW (Nat.le_refl _)
    constructor
    · have := (ents_four hE2 0 (by omega) (k := es[0]!.key) (v := es[0]!.value) (d := es[0]!.del) (q := es[0]!.seq) rfl).1
      rw [HK1.out] at this; simpa using this
    · have := (ents_four hE2 (n - 1) (by omega) (k := es[n - 1]!.key) (v := es[n - 1]!.value) (d := es[n - 1]!.del) (q := es[n - 1]!.seq) rfl).1
      rw [← hln, HK2.out, hln] at this; exact this
  rw [HD.out, HK1.out, HK2.out, hln]
  obtain ⟨m, hm⟩ : ∃ m, n = m + 1 := ⟨n - 1, by omega⟩
  subst hm
  have hm64 : (m : Int) ≤ 64 := by omega
  have hwm : IntKind.i64.wrap (m : Int) = (m : Int) := by rw [IntKind.wrap_i64]; omega
  have hm0 : (0 : Int) ≤ (m : Int) := by omega
  have hm1 : (m : Int) < (m : Int) + 1 := by omega
  have HM64 : Hid (m ≤ 64) := by show _ ≤ _; omega
  have HLN : Hid (es.length = m + 1) := hln
  obtain ⟨kk, HKK⟩ : ∃ k, Hid (tabC lv ((m + 1 : Nat) : Int) d k1 k2 = k) := ⟨_, rfl⟩
  have HBD : Hid (Tryd.prog.built 34 [(0, .int .i64 lv), (1, .int .i64 ((m : Int) + 1)), (2, .agg (cellsOf d).toArray), (3, .string k1), (4, .string k2)] = some kk) := by
    show _ = _
    rw [← HKK.out]; exact built34 lv _ k1 k2 d HDL.out
  have HKS : Hid (kk.size = 36) := by show _ = _; rw [← HKK.out]; exact tabC_size _ _ HDL.out _ _
  have HKA : Hid (kk.all (·.oneCell') = true) := by show _ = _; rw [← HKK.out]; exact tabC_all _ _ _ _ _
  have HZ : Hid ((zeroT).size = 36) := tabC_size 0 0 (by simp) _ _
  have hl0 : ¬ lv < 0 := by omega
  have hl4 : ¬ 4 ≤ lv := by omega
  rw [HKK.out]
  have HB0 : Hid (Below w.heap.size w (w.alloc (Obj.cells zeroT 34))) := (Below.refl _ w).alloc (Nat.le_refl _) _
  clear hE hsm hf hlen hln hz hEn HD HK1 HK2 hlv
  go_enter Tryd.func16, Tryd.ntmps16
  go_wp2_with fail
  refine (HF.out _ HB0.out).mono ?_
  rintro e w1 ⟨rfl, hb1⟩
  have HR : Hid (w1.heap[w.heap.size]? = some (.cells zeroT 34 (0, 0))) := by
    show _ = _
    rw [hb1.block _ (by simp)]
    exact World.alloc_heap_new w (.cells zeroT 34)
  have HBW : Hid (Below w.heap.size w w1) := HB0.out.trans (hb1.mono (by simp))
  have HS : Hid (∀ W, Below w1.heap.size w1 W → W.cell? ⟨b, off, none⟩ = some (.string k1) ∧ W.cell? ⟨b, off + m * 4, none⟩ = some (.string k2)) := fun W hW => HCELL.out W (HBW.out.trans (hW.mono HBW.out.size))
  clear hb1 HF HCELL HB0
  go_upto_region 4 with fail
  refine wp_region_held_drew (S := fun W => W.cell? ⟨b, off, none⟩ = some (.string k1) ∧ W.cell? ⟨b, off + m * 4, none⟩ = some (.string k2)) (by kernel_rfl) (HS.out _ (Below.drew (Below.refl _ _))) (fun hS => ?_)
  refine wpAnyH_take (i := 0) (v := ?_) rfl (by kernel_rfl) (by kernel_rfl) (by kernel_rfl) (fun _ _ _ h => h) (Or.inl ⟨by rfl, ?_⟩) (by assumption) ?_
  rotate_left
  · (intro w hSw; (try dsimp only at hSw); go_simp; try with_reducible rfl)
  simp only [Act.put, List.getElem_toArray, List.getElem_cons_zero, List.setIfInBounds_toArray, List.set_cons_zero, List.set_cons_succ]
  refine wpAnyH_take (i := 1) (v := ?_) rfl (by kernel_rfl) (by kernel_rfl) (by kernel_rfl) (fun _ _ _ h => h) (Or.inl ⟨by rfl, ?_⟩) (by assumption) ?_
  rotate_left
  · (intro w hSw; (try dsimp only at hSw); go_simp; try with_reducible rfl)
  simp only [Act.put, List.getElem_toArray, List.getElem_cons_zero, List.getElem_cons_succ, List.setIfInBounds_toArray, List.set_cons_zero, List.set_cons_succ]
  refine wpAnyH_take (i := 2) (v := ?_) rfl (by kernel_rfl) (by kernel_rfl) (by kernel_rfl) (fun _ _ _ h => h) (Or.inl ⟨by rfl, ?_⟩) (by assumption) ?_
  rotate_left
  · (intro w hSw; (try dsimp only at hSw); go_simp; try with_reducible rfl)
  simp only [Act.put, List.getElem_toArray, List.getElem_cons_zero, List.getElem_cons_succ, List.setIfInBounds_toArray, List.set_cons_zero, List.set_cons_succ]
  refine wpAnyH_take (i := 3) (v := ?_) rfl (by kernel_rfl) (by kernel_rfl) (by kernel_rfl) (fun _ _ _ h => h) (Or.inl ⟨by rfl, ?_⟩) (by assumption) ?_
  rotate_left
  · (intro w hSw; (try dsimp only at hSw); go_simp; try with_reducible rfl)
  simp only [Act.put, List.getElem_toArray, List.getElem_cons_zero, List.getElem_cons_succ, List.setIfInBounds_toArray, List.set_cons_zero, List.set_cons_succ]
  refine wpAnyH_take (i := 4) (v := ?_) rfl (by kernel_rfl) (by kernel_rfl) (by kernel_rfl) (fun _ _ _ h => h) (Or.inl ⟨by rfl, ?_⟩) (by assumption) ?_
  rotate_left
  · (intro w hSw; (try dsimp only at hSw); go_simp; try with_reducible rfl)
  simp only [Act.put, List.getElem_toArray, List.getElem_cons_zero, List.getElem_cons_succ, List.setIfInBounds_toArray, List.set_cons_zero, List.set_cons_succ]
  refine wpAnyH_take (i := 7) (v := ?_) rfl (by kernel_rfl) (by kernel_rfl) (by kernel_rfl) (fun _ _ _ h => h) (Or.inl ⟨by rfl, ?_⟩) (by assumption) ?_
  rotate_left
  · (intro w hSw; (try dsimp only at hSw); go_simp; try with_reducible rfl)
  simp only [Act.put, List.getElem_toArray, List.getElem_cons_zero, List.getElem_cons_succ, List.setIfInBounds_toArray, List.set_cons_zero, List.set_cons_succ]
  refine wpAnyH_take (i := 8) (v := ?_) rfl (by kernel_rfl) (by kernel_rfl) (by kernel_rfl) (fun _ _ _ h => h) (Or.inl ⟨by rfl, ?_⟩) (by assumption) ?_
  rotate_left
  · (intro w hSw; (try dsimp only at hSw); go_simp; try with_reducible rfl)
  simp only [Act.put, List.getElem_toArray, List.getElem_cons_zero, List.getElem_cons_succ, List.setIfInBounds_toArray, List.set_cons_zero, List.set_cons_succ]
  refine wpAnyH_take (i := 9) (v := ?_) rfl (by kernel_rfl) (by kernel_rfl) (by kernel_rfl) (fun _ _ _ h => h) (Or.inl ⟨by rfl, ?_⟩) (by assumption) ?_
  rotate_left
  · (intro w hSw; (try dsimp only at hSw); go_simp; try with_reducible rfl)
  simp only [Act.put, List.getElem_toArray, List.getElem_cons_zero, List.getElem_cons_succ, List.setIfInBounds_toArray, List.set_cons_zero, List.set_cons_succ]
  refine wpAnyH_take (i := 10) (v := ?_) rfl (by kernel_rfl) (by kernel_rfl) (by kernel_rfl) (fun _ _ _ h => h) (Or.inl ⟨by rfl, ?_⟩) (by assumption) ?_
  rotate_left
  · (intro w hSw; (try dsimp only at hSw); go_simp; try with_reducible rfl)
  simp only [Act.put, List.getElem_toArray, List.getElem_cons_zero, List.getElem_cons_succ, List.setIfInBounds_toArray, List.set_cons_zero, List.set_cons_succ]
  refine wpAnyH_take (i := 11) (v := ?_) rfl (by kernel_rfl) (by kernel_rfl) (by kernel_rfl) (fun _ _ _ h => h) (Or.inl ⟨by rfl, ?_⟩) (by assumption) ?_
  rotate_left
  · (intro w hSw; (try dsimp only at hSw); go_simp; try with_reducible rfl)
  simp only [Act.put, List.getElem_toArray, List.getElem_cons_zero, List.getElem_cons_succ, List.setIfInBounds_toArray, List.set_cons_zero, List.set_cons_succ]
  refine wpAnyH_take (i := 12) (v := ?_) rfl (by kernel_rfl) (by kernel_rfl) (by kernel_rfl) (fun _ _ _ h => h) (Or.inl ⟨by rfl, ?_⟩) (by assumption) ?_
  rotate_left
  · (intro w hSw; (try dsimp only at hSw); go_simp; try with_reducible rfl)
  simp only [Act.put, List.getElem_toArray, List.getElem_cons_zero, List.getElem_cons_succ, List.setIfInBounds_toArray, List.set_cons_zero, List.set_cons_succ]
  refine wpAnyH_take (i := 13) (v := ?_) rfl (by kernel_rfl) (by kernel_rfl) (by kernel_rfl) (fun _ _ _ h => h) (Or.inl ⟨by rfl, ?_⟩) (by assumption) ?_
  rotate_left
  · (intro w hSw; (try dsimp only at hSw); go_simp; try with_reducible rfl)
  simp only [Act.put, List.getElem_toArray, List.getElem_cons_zero, List.getElem_cons_succ, List.setIfInBounds_toArray, List.set_cons_zero, List.set_cons_succ]
  refine wpAnyH_take (i := 14) (v := ?_) rfl (by kernel_rfl) (by kernel_rfl) (by kernel_rfl) (fun _ _ _ h => h) (Or.inl ⟨by rfl, ?_⟩) (by assumption) ?_
  rotate_left
  · (intro w hSw; (try dsimp only at hSw); go_simp; try with_reducible rfl)
  simp only [Act.put, List.getElem_toArray, List.getElem_cons_zero, List.getElem_cons_succ, List.setIfInBounds_toArray, List.set_cons_zero, List.set_cons_succ]
  refine wpAnyH_take (i := 15) (v := ?_) rfl (by kernel_rfl) (by kernel_rfl) (by kernel_rfl) (fun _ _ _ h => h) (Or.inl ⟨by rfl, ?_⟩) (by assumption) ?_
  rotate_left
  · (intro w hSw; (try dsimp only at hSw); go_simp; try with_reducible rfl)
  simp only [Act.put, List.getElem_toArray, List.getElem_cons_zero, List.getElem_cons_succ, List.setIfInBounds_toArray, List.set_cons_zero, List.set_cons_succ]
  refine wpAnyH_take (i := 16) (v := ?_) rfl (by kernel_rfl) (by kernel_rfl) (by kernel_rfl) (fun _ _ _ h => h) (Or.inl ⟨by rfl, ?_⟩) (by assumption) ?_
  rotate_left
  · (intro w hSw; (try dsimp only at hSw); go_simp; try with_reducible rfl)
  simp only [Act.put, List.getElem_toArray, List.getElem_cons_zero, List.getElem_cons_succ, List.setIfInBounds_toArray, List.set_cons_zero, List.set_cons_succ]
  refine wpAnyH_take (i := 17) (v := ?_) rfl (by kernel_rfl) (by kernel_rfl) (by kernel_rfl) (fun _ _ _ h => h) (Or.inl ⟨by rfl, ?_⟩) (by assumption) ?_
  rotate_left
  · (intro w hSw; (try dsimp only at hSw); go_simp; try with_reducible rfl)
  simp only [Act.put, List.getElem_toArray, List.getElem_cons_zero, List.getElem_cons_succ, List.setIfInBounds_toArray, List.set_cons_zero, List.set_cons_succ]
  refine wpAnyH_ready (rs := [5]) (by kernel_rfl) (by simp) ?_
  refine AllReadyH.cons rfl (fun K hK => ?_) AllReadyH.nil
  go_simp
  refine (HLV.out _ (HBW.out.trans ((Below.drew (Below.refl _ w1)).mono HBW.out.size))).mono ?_
  rintro e w2 ⟨v2, rfl, hLO, hb2⟩
  have hll : (strE es).length = m + 1 := by rw [strE_len, HLN.out]
  rw [← hll] at hLO
  obtain ⟨ao2, c2, hv2, hLV⟩ := Sm.str_of_own hLO
  rw [hll] at hv2 hLV
  subst hv2
  have HB2 : Hid (Below w1.heap.size w1 w2) := (Below.drew (Below.refl _ w1)).trans hb2
  have HCR : Hid _ := HRT.out w2 ao2 c2 (HBW.out.trans (HB2.out.mono HBW.out.size)) hLV
  clear hLO hb2 hll hLV HLV HRT
  go_wp2_with fail
  refine hK.out _ _ (HS.out _ HB2.out) (fun hHeld2 => ?_)
  clear hK K
  refine wpAnyH_ready (rs := [6]) (by kernel_rfl) (by simp) ?_
  refine AllReadyH.cons rfl (fun K hK => ?_) AllReadyH.nil
  go_simp
  refine Calls.mono HCR.out ?_
  rintro e w3 ⟨rfl, hb3⟩
  have HB3 : Hid (Below w1.heap.size w1 w3) := HB2.out.trans (hb3.mono HB2.out.size)
  have HR3 : Hid (w3.heap[w.heap.size]? = some (.cells zeroT 34 (0, 0))) := (HB3.out.block _ (Array.getElem?_eq_some_iff.1 HR.out).1).trans HR.out
  clear hb3 HCR
  go_wp2_with fail
  refine hK.out _ _ (HS.out _ HB3.out) (fun hHeld3 => ?_)
  clear hK K
  refine wpAnyH_take (i := 18) (v := .agg kk) rfl (by kernel_rfl) (by kernel_rfl) (by kernel_rfl) (fun _ _ _ h => h) (yieldsIf_build (by rfl) 34 #[(0, .tmp 22), (1, .tmp 24), (2, .tmp 28), (3, .tmp 32), (4, .tmp 39)] rfl kk _ HBD.out rfl) (by assumption) ?_
  simp only [Act.put, List.getElem_toArray, List.getElem_cons_zero, List.getElem_cons_succ, List.setIfInBounds_toArray, List.set_cons_zero, List.set_cons_succ]
  refine wpAnyH_ready (rs := [19]) (by kernel_rfl) (by simp) ?_
  refine AllReadyH.cons rfl (fun K hK => ?_) AllReadyH.nil
  rw [if_pos (by rfl)]
  refine wp_store_row 34 (.tmp 6) (.tmp 40) rfl (w.heap.size) kk rfl rfl 34 zeroT HR3.out (by rw [size34, HKS.out]) (by rw [HKS.out, HZ.out]) HKA.out ?_
  have HFAR : Hid ((w3.setRow w.heap.size kk).cell? ⟨b, off, none⟩ = some (.string k1) ∧ (w3.setRow w.heap.size kk).cell? ⟨b, off + m * 4, none⟩ = some (.string k2)) := by
    obtain ⟨h2, h3⟩ := HS.out _ HB3.out
    have hbw := HLOW.out
    exact ⟨Sm.cell_row_far h2 (by show b ≠ w.heap.size; omega), Sm.cell_row_far h3 (by show b ≠ w.heap.size; omega)⟩
  refine hK.out _ _ HFAR.out (fun hHeld4 => ?_)
  clear hK K
  simp only [Act.put, List.getElem_toArray, List.getElem_cons_zero, List.getElem_cons_succ]
  refine wpAnyH_take (i := 20) (v := ?_) rfl (by kernel_rfl) (by kernel_rfl) (by kernel_rfl) (fun _ _ _ h => h) (Or.inl ⟨by rfl, ?_⟩) (by assumption) ?_
  rotate_left
  · (intro w hSw; (try dsimp only at hSw); go_simp; try with_reducible rfl)
  simp only [Act.put, List.getElem_toArray, List.getElem_cons_zero, List.getElem_cons_succ, List.setIfInBounds_toArray, List.set_cons_zero, List.set_cons_succ]
  refine wpAnyH_done (by kernel_rfl) ?_ _
  clear hS hHeld2 hHeld3 hHeld4
  go_wp2_with fail
  refine bodyPost_ret (results_tab rfl _ _ (w.heap.size) 34 kk (0, 0) rfl (setRow_heap _ _ _ _ _ _ HR3.out) (by rw [size34, HKS.out])) rfl ?_
  exact ⟨rfl, below_setRow (HBW.out.trans (HB3.out.mono HBW.out.size)) (Nat.le_refl _) _⟩
/-- What Describe answers. -/
theorem refDescribe_any (z lv : Int) (ao : Option Addr) (n c : Nat) (es : List E) (w : World) (hE : EntsV w ao n es) (hsm : Small es) (hn : n ≤ 1000) (hlow : ∀ x, ao = some x → x.block < w.heap.size) (hz : -9223372036854775808 ≤ z ∧ z ≤ 9223372036854775807) :
    Calls Tryd.prog 16 #[.int .i64 z, .int .i64 lv, .slice ao n c] w fun e w' => e = .returned (descV z lv es) ∧ Below w.heap.size w w' := by
  unfold descV
  by_cases h : fitB es = true ∧ 0 ≤ lv ∧ lv < 4
  · rw [if_pos h]
    obtain ⟨b, off, hao, -⟩ := hE.2 (by have := hE.1; have := (fit_len h.1).1; omega)
    subst hao
    exact refDescribe_some z lv b off n c es w hE h.1 h.2 hz (hlow _ rfl)
  · rw [if_neg h]
    exact refDescribe_wrong z lv ao n c es w hE hsm hn h
end Go.Proofs.YtcgjhopfdpaocaaDoor
