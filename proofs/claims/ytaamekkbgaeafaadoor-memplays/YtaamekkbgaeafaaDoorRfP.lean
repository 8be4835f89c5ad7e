/-
  The document's Put.
-/
import Derived.Test.YtaamekkbgaeafaaDoorRfL
import Derived.Deep.RegionHeld3
import Derived.BigQuiet
namespace Go.Proofs.YtaamekkbgaeafaaDoor
open Go.RowKit
set_option linter.unusedSectionVars false
set_option linter.unusedVariables false
variable [Inhabited E] [DecidableEq E]
/-- The document's mem behind a Put. -/
def putR (R : Rf) (e : E) : Rf := if putN R.mm e = 0 then ⟨R.l ++ [e], e.seq, linkB R.ch e⟩ else R
theorem putR_mm (R : Rf) (e : E) : (putR R e).mm = putA R.mm e := by
  unfold putR putA
  split
  · rw [Rf.mm, fold_more]; rfl
  · rfl
theorem putR_wf {R : Rf} {N : Nat} (h : R.wf N) {e : E} (hp : putN R.mm e = 0) : Rf.wf ⟨R.l ++ [e], e.seq, linkB R.ch e⟩ (N + 1) := by
  obtain ⟨h1, h2, h3⟩ := putN_zero hp
  have h2' : R.last < e.seq := h2
  refine ⟨linkB_len _ _, ?_, ?_, ?_⟩
  · show (R.l ++ [e]).length ≤ N + 1
    have := h.len; simp; omega
  · show (R.l ++ [e]).Pairwise _
    rw [List.pairwise_append]
    refine ⟨h.up, List.pairwise_singleton _ _, fun a ha b hb => ?_⟩
    simp only [List.mem_singleton] at hb
    subst hb
    have := h.seqs a ha
    omega
  · intro x hx
    rcases List.mem_append.1 hx with q | q
    · have := h.seqs x q
      show x.seq ≤ e.seq
      omega
    · simp only [List.mem_singleton] at q
      subst q
      exact Int.le_refl _
set_option maxRecDepth 100000 in
set_option maxHeartbeats 4000000 in
theorem refPutM_any (own : Nat → Prop) (g N : Nat) (R : Rf) (k v : ByteArray) (d : Bool) (q : Int) (w : World) (h : RfAt own w g R N) (hN : N ≤ 1000) (hk : k.size ≤ 9223372036854775807) (hv : v.size ≤ 9223372036854775807) :
    Calls Tryd.prog 14 #[.pointer (some ⟨g, 0, none⟩), .agg #[Value.string k, Value.string v, Value.bool d, Value.int IntKind.i64 q]] w fun e w' => e = .returned (.int .i64 (putN R.mm (⟨k, v, d, q⟩ : E))) ∧ RfAt (grow own w) w' g (putR R (⟨k, v, d, q⟩ : E)) (N + 1) ∧ Only own w w' := by
  obtain ⟨ie0, hie0, hze0, hze1, hze2⟩ := info_parts info23
  obtain ⟨n9, HN⟩ : ∃ n9, Hid (putN R.mm (⟨k, v, d, q⟩ : E) = n9) := ⟨_, rfl⟩
  obtain ⟨R9, HR9⟩ : ∃ R9, Hid (putR R (⟨k, v, d, q⟩ : E) = R9) := ⟨_, rfl⟩
  rw [HN.out, HR9.out]
  obtain ⟨W, hW⟩ : ∃ W, W = w.alloc (.cells #[Value.string k, Value.string v, Value.bool d, Value.int IntKind.i64 q] 29) := ⟨_, rfl⟩
  have hbW : Below w.heap.size w W := by rw [hW]; exact bel_alloc w _
  have hWe : W.heap[w.heap.size]? = some (.cells #[Value.string k, Value.string v, Value.bool d, Value.int IntKind.i64 q] 29) := by rw [hW]; exact heap_alloc_new w _
  have hgl := h.lt
  obtain ⟨e0, e1, e2, e3⟩ := four_cells hWe
  obtain ⟨r0, HR0⟩ : ∃ r0, Hid (rightB (⟨k, v, d, q⟩ : E) = r0) := ⟨_, rfl⟩
  have hrc := refRight_any k v d q W hk hv
  rw [HR0.out] at hrc
  have HH : Hid (RfAt own w g R N) := h
  have HLL : Hid (R.l.length ≤ 1000) := by show _ ≤ _; have := h.1.len; omega
  clear h
  go_enter Tryd.func14, Tryd.ntmps14
  go_wp2_with (go_at_call 34; rw [← hW]; refine hrc.mono ?_; rintro e w2 ⟨rfl, hb2⟩)
  have HBB : Hid (Below w.heap.size w w2) := hbW.trans (hb2.mono hbW.size)
  have hx2 := (hb2.block _ (heap_lt hWe)).trans hWe
  obtain ⟨x0, x1, x2, x3⟩ := four_cells hx2
  obtain ⟨la, HLA⟩ : ∃ la, Hid (R.last = la) := ⟨_, rfl⟩
  have hc1 : w2.cell? ⟨g, 1, none⟩ = some (.int .i64 la) := by rw [← HLA.out]; obtain ⟨wf, vv, hM⟩ := HH.out.grown HBB.out; exact hM.c1
  have HX2 : Hid (w2.heap[w.heap.size]? = some (.cells #[Value.string k, Value.string v, Value.bool d, Value.int IntKind.i64 q] 29)) := hx2
  clear hW hbW hWe e0 e1 e2 e3 hrc hb2 hx2
  cases r0 with
  | false =>
    have hn9 : n9 = 1 := by rw [← HN.out, putN, if_pos (.inl HR0.out)]
    have HQ9 : Hid (R9 = R) := by show _ = _; rw [← HR9.out, putR, HN.out, hn9]; rfl
    clear HN HR0 HR9
    go_quiet (fail)
    have HBB2 : Hid (Below w.heap.size w (w2.drewN nq)) := bel_drewN HBB.out nq
    clear HBB
    have HBB := HBB2
    go_wp2_with fail
    go_ret
    refine ⟨by rw [hn9]; rfl, ?_, Only.of_below HBB.out⟩
    rw [HQ9.out]
    exact (HH.out.grown HBB.out).mono (fun k hk e => .inl e) (Nat.le_succ _)
  | true =>
    by_cases hq : q ≤ la
    · have hn9 : n9 = 1 := by rw [← HN.out, putN, if_pos (.inr (by show q ≤ R.last; rw [HLA.out]; exact hq))]
      have HQ9 : Hid (R9 = R) := by show _ = _; rw [← HR9.out, putR, HN.out, hn9]; rfl
      have dq : decide (q ≤ la) = true := decide_eq_true hq
      clear HN HR0 HR9
      go_quiet (fail)
      have HBB2 : Hid (Below w.heap.size w (w2.drewN nq)) := bel_drewN HBB.out nq
      clear HBB
      have HBB := HBB2
      go_wp2_with fail
      go_ret
      refine ⟨by rw [hn9]; rfl, ?_, Only.of_below HBB.out⟩
      rw [HQ9.out]
      exact (HH.out.grown HBB.out).mono (fun k hk e => .inl e) (Nat.le_succ _)
    · have dq : decide (q ≤ la) = false := decide_eq_false hq
      have hneg : ¬ (rightB (⟨k, v, d, q⟩ : E) = false ∨ (⟨k, v, d, q⟩ : E).seq ≤ R.mm.last) := by show ¬ (rightB (⟨k, v, d, q⟩ : E) = false ∨ q ≤ R.last); rw [HR0.out, HLA.out]; simp; omega
      go_quiet (fail)
      obtain ⟨w3, HW3⟩ : ∃ w3, Hid (w2.drewN nq = w3) := ⟨_, rfl⟩
      have HB3 : Hid (Below w.heap.size w w3) := by show Below _ _ _; rw [← HW3.out]; exact bel_drewN HBB.out nq
      have HX3 : Hid (w3.heap[w.heap.size]? = some (.cells #[Value.string k, Value.string v, Value.bool d, Value.int IntKind.i64 q] 29)) := by show _ = _; rw [← HW3.out]; exact HX2.out
      rw [HW3.out]
      obtain ⟨wf, v0, hM⟩ := HH.out.grown HB3.out
      obtain ⟨ao, c, rfl, hEV, h0⟩ := hM.sl
      have c0 := hM.c0
      have HFO : Hid _ := refFold_any ao R.l.length c R.l w3 hEV (by have := HLL.out; omega)
      have HM3 : Hid (RfIn own w3 g R (.slice ao R.l.length c)) := hM
      have HCL : Hid (R.ch.length = 32) := wf.chl
      have HWFR : Hid (R.wf N) := HH.out.1
      clear hM hEV h0 x0 x1 x2 x3 hc1 HW3 HX2 HBB dq hq wf
      go_wp2_with fail
      refine Calls.mono HFO.out ?_
      rintro e w4 ⟨v4, rfl, ho4, hb4⟩
      obtain ⟨ao4, c4, rfl, he4, h04⟩ := own_sl ho4
      have hx4 := (hb4.block _ (heap_lt HX3.out)).trans HX3.out
      obtain ⟨x0, -, -, -⟩ := four_cells hx4
      have hfl := foldS_len R.l
      have HFI : Hid _ := refFind_any ao4 (foldS R.l).length c4 (foldS R.l) k w4 he4 (by have := HLL.out; omega)
      have HFL : Hid ((foldS R.l).length ≤ R.l.length) := hfl
      clear hfl he4 h04 ho4
      go_wp2_with fail
      refine Calls.mono HFI.out ?_
      rintro e w5 ⟨rfl, hb5⟩
      have hb35 : Below w3.heap.size w3 w5 := hb4.trans (hb5.mono hb4.size)
      have HB5 : Hid (Below w.heap.size w w5) := HB3.out.trans (hb35.mono HB3.out.size)
      have HX5 : Hid (w5.heap[w.heap.size]? = some (.cells #[Value.string k, Value.string v, Value.bool d, Value.int IntKind.i64 q] 29)) := (hb5.block _ (heap_lt hx4)).trans hx4
      have HM5 : Hid (RfIn own w5 g R (.slice ao R.l.length c)) := HM3.out.keep (fun kk hkk _ => hb35.block kk hkk)
      obtain ⟨qi, HQI⟩ : ∃ qi, Hid (isIn k (foldS R.l) = qi) := ⟨_, rfl⟩
      obtain ⟨nf, HNF⟩ : ∃ nf, Hid ((foldS R.l).length = nf) := ⟨_, rfl⟩
      have hnf1000 : nf ≤ 1000 := by rw [← HNF.out]; have := HLL.out; have := HFL.out; omega
      simp only [HQI.out, HNF.out]
      clear HFO HFI hb4 hx4 x0 hb5 hb35 HM3 HX3 HB3 c0 HFL
      by_cases hful : qi = false ∧ 64 ≤ nf
      · obtain ⟨hq0, hf64⟩ := hful
        subst hq0
        have hn9 : n9 = 3 := by rw [← HN.out, putN, if_neg hneg, if_pos ⟨HQI.out, by show 64 ≤ (foldS R.l).length; rw [HNF.out]; exact hf64⟩]
        have HQ9 : Hid (R9 = R) := by show _ = _; rw [← HR9.out, putR, HN.out, hn9]; rfl
        have hz : (64 : Int) ≤ (nf : Int) := by omega
        have dz : decide ((64 : Int) ≤ (nf : Int)) = true := decide_eq_true hz
        have HBB := HB5
        clear HN HR0 hf64 hneg
        go_wp2_with fail
        go_ret
        refine ⟨by rw [hn9]; rfl, ?_, Only.of_below HBB.out⟩
        rw [HQ9.out]
        exact (HH.out.grown HBB.out).mono (fun k hk e => .inl e) (Nat.le_succ _)
      · have hn9 : n9 = 0 := by
          rw [← HN.out, putN, if_neg hneg, if_neg]
          rintro ⟨z1, z2⟩
          exact hful ⟨HQI.out.symm.trans z1, by rw [← HNF.out]; exact z2⟩
        have HWF : Hid (Rf.wf ⟨R.l ++ [(⟨k, v, d, q⟩ : E)], q, linkB R.ch (⟨k, v, d, q⟩ : E)⟩ (N + 1)) := putR_wf HWFR.out (by rw [HN.out]; exact hn9)
        have HQ9 : Hid (R9 = ⟨R.l ++ [(⟨k, v, d, q⟩ : E)], q, linkB R.ch (⟨k, v, d, q⟩ : E)⟩) := by show _ = _; rw [← HR9.out, putR, HN.out, hn9, if_pos rfl]
        have HOG : Hid (own g) := HM5.out.og
        have hsz3 : w.heap.size < w5.heap.size := heap_lt HX5.out
        have hx3 := four_cells HX5.out
        have c0 := HM5.out.c0
        have HKB : Hid (∀ kk, (Value.slice ao R.l.length c).ownBlock = some kk → kk < w.heap.size ∧ kk ≠ g ∧ own kk) := fun kk hkk => by
          refine ⟨?_, ?_, HM5.out.rown kk hkk⟩
          · obtain ⟨_, v7, h7⟩ := HH.out
            have h8 := bel_cell HB5.out (Nat.le_refl _) h7.c0
            rw [HM5.out.c0] at h8
            cases h8
            exact (h7.row.lt kk hkk).2
          · obtain ⟨cur, e1⟩ := row_heap HM5.out.row hkk
            exact ne_kind e1 HM5.out.cells (by decide)
        obtain ⟨wb, HWB⟩ : ∃ wb, Hid ((w5.alloc (.cells #[Value.string k, Value.string v, Value.bool d, Value.int IntKind.i64 q] 29)).drew = wb) := ⟨_, rfl⟩
        have hbb : Below w5.heap.size w5 wb := by rw [← HWB.out]; exact Below.drew (bel_alloc w5 _)
        have HBXB : Hid (wb.heap[w.heap.size]? = some (.cells #[Value.string k, Value.string v, Value.bool d, Value.int IntKind.i64 q] 29)) := (hbb.block _ hsz3).trans HX5.out
        have hvb : wb.heap[w5.heap.size]? = some (.cells (encE (⟨k, v, d, q⟩ : E)).toArray 29 (0, 0)) := by rw [← HWB.out]; exact heap_alloc_new w5 _
        have HVN : Hid (∀ j u, (encE (⟨k, v, d, q⟩ : E))[j]? = some u → wb.cell? ((⟨w5.heap.size, 0, none⟩ : Addr).add j) = some u) := fun j u hu => by
          rw [Addr.add_lit, Nat.zero_add, cell_of_row _ _ _ _ _ _ hvb]; simpa [encE] using hu
        have HON : Hid (∀ u ∈ encE (⟨k, v, d, q⟩ : E), u.oneCell' = true) := fun u hu => by have := flatE_one [(⟨k, v, d, q⟩ : E)] u (by simpa [flatE] using hu); exact this
        have H63 : Hid (R.l.length + 1 ≤ maxLen) := by show _ ≤ _; have := HLL.out; unfold maxLen; omega
        have H48 : Hid ((R.l.length + 1) * 48 ≤ 140737488355328) := by show _ ≤ _; have := HLL.out; omega
        have HRB : Hid (wb.ownsRow 0 29 4 (.slice ao R.l.length c) R.l.length (flatE R.l)) := row_block HM5.out.row (fun kk hk => hbb.block kk (HM5.out.row.lt kk hk).2)
        have HMB : Hid (wb.heap[g]? = some (.cells (memC (.slice ao R.l.length c) R.last R.ch) 44 (0, 0))) := (hbb.block _ (heap_lt HM5.out.cells)).trans HM5.out.cells
        have HOB : Hid (Only own w wb) := (Only.of_below (own := own) HB5.out).trans (Only.of_below (own := own) hbb) (fun _ e => .inl e)
        have HSB : Hid (w5.heap.size < wb.heap.size) := heap_lt hvb
        have hcb : wb.cell? ⟨g, 0, none⟩ = some (.slice ao R.l.length c) := (cell_of_row _ _ _ _ _ _ HMB.out).trans rfl
        have c0d : w5.drew.cell? ⟨g, 0, none⟩ = some (.slice ao R.l.length c) := c0
        clear hbb hvb HM5 HX5 HB5 c0 HN HR0 hneg HWFR HLA HLL
        have hfulz : qi = true ∨ nf < 64 := by
          cases qi with
          | true => exact .inl rfl
          | false => exact .inr (by by_cases z : 64 ≤ nf; exact absurd ⟨rfl, z⟩ hful; omega)
        clear hful
        by_cases hnf : 64 ≤ nf
        · have hqt : qi = true := by
            rcases hfulz with z | z
            · exact z
            · omega
          subst hqt
          have hz : (64 : Int) ≤ (nf : Int) := by omega
          have dz : decide ((64 : Int) ≤ (nf : Int)) = true := decide_eq_true hz
          clear hfulz hnf
          go_wp2_with fail
          refine wp_region_held_drew (S := fun w' => w'.cell? ⟨w.heap.size, 0, none⟩ = some (.string k) ∧ w'.cell? ⟨w.heap.size, 1, none⟩ = some (.string v) ∧ w'.cell? ⟨w.heap.size, 2, none⟩ = some (.bool d) ∧ w'.cell? ⟨w.heap.size, 3, none⟩ = some (.int .i64 q)) (by kernel_rfl) hx3 (fun hS => ?_)
          refine wpAnyH_take (i := 0) (v := ?_) rfl (by kernel_rfl) (by kernel_rfl) (by kernel_rfl) (fun _ _ _ h => h) (Or.inl ⟨by rfl, ?_⟩) (by assumption) ?_
          rotate_left
          · (intro w hSw; (try dsimp only at hSw); go_simp; try with_reducible rfl)
          simp only [Act.put, List.getElem_toArray, List.getElem_cons_zero, List.setIfInBounds_toArray, List.set_cons_zero, List.set_cons_succ]
          refine wpAnyH_take (i := 1) (v := ?_) rfl (by kernel_rfl) (by kernel_rfl) (by kernel_rfl) (fun _ _ _ h => h) (Or.inl ⟨by rfl, ?_⟩) (by assumption) ?_
          rotate_left
          · (intro w hSw; (try dsimp only at hSw); go_simp; try with_reducible rfl)
          simp only [Act.put, List.getElem_toArray, List.getElem_cons_zero, List.getElem_cons_succ, List.setIfInBounds_toArray, List.set_cons_zero, List.set_cons_succ]
          refine wpAnyH_take (i := 2) (v := ?_) rfl (by kernel_rfl) (by kernel_rfl) (by kernel_rfl) (fun _ _ _ h => h) (Or.inl ⟨by rfl, ?_⟩) (by assumption) ?_
          rotate_left
          · (intro w hSw; (try dsimp only at hSw); go_simp; try with_reducible rfl)
          simp only [Act.put, List.getElem_toArray, List.getElem_cons_zero, List.getElem_cons_succ, List.setIfInBounds_toArray, List.set_cons_zero, List.set_cons_succ]
          refine wpAnyH_take (i := 3) (v := ?_) rfl (by kernel_rfl) (by kernel_rfl) (by kernel_rfl) (fun _ _ _ h => h) (Or.inl ⟨by rfl, ?_⟩) (by assumption) ?_
          rotate_left
          · (intro w hSw; (try dsimp only at hSw); go_simp; try with_reducible rfl)
          simp only [Act.put, List.getElem_toArray, List.getElem_cons_zero, List.getElem_cons_succ, List.setIfInBounds_toArray, List.set_cons_zero, List.set_cons_succ]
          refine wpAnyH_take (i := 5) (v := ?_) rfl (by kernel_rfl) (by kernel_rfl) (by kernel_rfl) (fun _ _ _ h => h) (Or.inl ⟨by rfl, ?_⟩) (by assumption) ?_
          rotate_left
          · (intro w hSw; (try dsimp only at hSw); go_simp; try with_reducible rfl)
          simp only [Act.put, List.getElem_toArray, List.getElem_cons_zero, List.getElem_cons_succ, List.setIfInBounds_toArray, List.set_cons_zero, List.set_cons_succ]
          refine wpAnyH_ready (rs := [4, 6]) (by kernel_rfl) (by simp) ?_
          refine AllReadyH.cons rfl (fun K hK => ?_) (AllReadyH.cons rfl (fun K hK => ?_) AllReadyH.nil)
          · go_simp
            refine hK.out _ _ hx3 (fun hHeld2 => ?_)
            clear hK K
            try simp only [Act.put, List.getElem_toArray, List.getElem_cons_zero, List.getElem_cons_succ, List.setIfInBounds_toArray, List.set_cons_zero, List.set_cons_succ]
            refine wpAnyH_ready (rs := [6]) (by kernel_rfl) (by simp) ?_
            refine AllReadyH.cons rfl (fun K hK => ?_) AllReadyH.nil
            go_simp
            rw [HWB.out]
            refine hK.out _ _ (four_cells HBXB.out) (fun hHeld2 => ?_)
            clear hK K
            try simp only [Act.put, List.getElem_toArray, List.getElem_cons_zero, List.getElem_cons_succ, List.setIfInBounds_toArray, List.set_cons_zero, List.set_cons_succ]
            refine wpAnyH_ready (rs := [7]) (by kernel_rfl) (by simp) ?_
            refine AllReadyH.cons rfl (fun K hK => ?_) AllReadyH.nil
            rw [if_pos (by rfl)]
            refine wp_append_lies wb (.tmp 45) (.tmp 47) 35 rfl 0 29 ie0 _ 4 48 Tryd.underlying35 hie0 hze0 hze1 hze2 rfl (by decide) (.slice ao R.l.length c) R.l.length (flatE R.l) rfl HRB.out ⟨w5.heap.size, 0, none⟩ 1 1 (encE (⟨k, v, d, q⟩ : E)) rfl rfl HVN.out HON.out (by decide) H63.out H48.out (Nat.zero_le _) wb.heap.size rfl ?_
            intro b9 c9 w6 h6 hg6 hv6 hl6
            obtain ⟨v9, hv9⟩ : ∃ v9, v9 = Value.slice (some ⟨b9, 0, none⟩) (R.l.length + 1) c9 := ⟨_, rfl⟩
            have HM6 : Hid (w6.heap[g]? = some (.cells (memC (.slice ao R.l.length c) R.last R.ch) 44 (0, 0))) := (hg6.block g (heap_lt HMB.out) (fun e => (HKB.out g e.symm).2.1 rfl)).trans HMB.out
            have HBX6 : Hid (w6.heap[w.heap.size]? = some (.cells #[Value.string k, Value.string v, Value.bool d, Value.int IntKind.i64 q] 29)) := (hg6.block _ (heap_lt HBXB.out) (fun e => by have := (HKB.out _ e.symm).1; omega)).trans HBXB.out
            have c6 : w6.cell? ⟨g, 0, none⟩ = some (.slice ao R.l.length c) := (cell_of_row _ _ _ _ _ _ HM6.out).trans rfl
            have z6 : w6.frozen? ⟨g, 0, none⟩ = false := fz_of HM6.out 0
            have HNG : Hid (v9.ownBlock ≠ some g) := by
              show _ ≠ _
              rw [hv9]
              intro e
              have e3 : b9 = g := by simpa [Value.ownBlock] using e
              rcases hv6 with e2 | e2
              · exact (HKB.out b9 e2).2.1 e3
              · have := HSB.out; omega
            have HRO : Hid (∀ k, v9.ownBlock = some k → grow own w k) := fun kk hk => by
              rw [hv9] at hk
              have e3 : b9 = kk := by simpa [Value.ownBlock] using hk
              rcases hv6 with e2 | e2
              · exact .inl (by rw [← e3]; exact (HKB.out b9 e2).2.2)
              · exact .inr (by have := HSB.out; omega)
            have HO6 : Hid (Only own w w6) := HOB.out.grown hg6 (fun kk e => .inl (HKB.out kk e).2.2)
            have HR6 : Hid (w6.ownsRow 0 29 4 v9 (R.l ++ [(⟨k, v, d, q⟩ : E)]).length (flatE (R.l ++ [(⟨k, v, d, q⟩ : E)]))) := by
              show World.ownsRow _ _ _ _ _ _ _
              rw [List.length_append, flatE_append, hv9]
              simpa [flatE] using h6
            refine hK.out _ _ (four_cells HBX6.out) (fun hHeld2 => ?_)
            clear hK K h6 hg6 hv6
            try simp only [Act.put, List.getElem_toArray, List.getElem_cons_zero, List.getElem_cons_succ, List.setIfInBounds_toArray, List.set_cons_zero, List.set_cons_succ]
            refine wpAnyH_take (i := 8) (v := ?_) rfl (by kernel_rfl) (by kernel_rfl) (by kernel_rfl) (fun _ _ _ h => h) (Or.inl ⟨by rfl, ?_⟩) (by assumption) ?_
            rotate_left
            · (intro w hSw; (try dsimp only at hSw); go_simp; try with_reducible rfl)
            simp only [Act.put, List.getElem_toArray, List.getElem_cons_zero, List.getElem_cons_succ, List.setIfInBounds_toArray, List.set_cons_zero, List.set_cons_succ]
            refine wpAnyH_take (i := 9) (v := ?_) rfl (by kernel_rfl) (by kernel_rfl) (by kernel_rfl) (fun _ _ _ h => h) (Or.inl ⟨by rfl, ?_⟩) (by assumption) ?_
            rotate_left
            · (intro w hSw; (try dsimp only at hSw); go_simp; try with_reducible rfl)
            simp only [Act.put, List.getElem_toArray, List.getElem_cons_zero, List.getElem_cons_succ, List.setIfInBounds_toArray, List.set_cons_zero, List.set_cons_succ]
            refine wpAnyH_ready (rs := [10]) (by kernel_rfl) (by simp) ?_
            refine AllReadyH.cons rfl (fun K hK => ?_) AllReadyH.nil
            go_simp
            rw [← hv9]
            obtain ⟨wz, HZ⟩ : ∃ wz, Hid (w6.setCell ⟨g, 0, none⟩ v9 = wz) := ⟨_, rfl⟩
            rw [HZ.out]
            have HM9 : Hid (wz.heap[g]? = some (.cells (memC v9 R.last R.ch) 44 (0, 0))) := by show _ = _; rw [← HZ.out]; exact rf_set0 HM6.out
            have HBX : Hid (wz.heap[w.heap.size]? = some (.cells #[Value.string k, Value.string v, Value.bool d, Value.int IntKind.i64 q] 29)) := by show _ = _; rw [← HZ.out, heap_set_ne _ _ _ (by omega)]; exact HBX6.out
            have HROW : Hid (wz.ownsRow 0 29 4 v9 (R.l ++ [(⟨k, v, d, q⟩ : E)]).length (flatE (R.l ++ [(⟨k, v, d, q⟩ : E)]))) := by show World.ownsRow _ _ _ _ _ _ _; rw [← HZ.out]; exact row_block HR6.out (fun k hk => heap_set_ne _ _ _ (fun e => HNG.out (by rw [← e]; exact hk)))
            have HOX : Hid (Only own w wz) := by show Only _ _ _; rw [← HZ.out]; exact HO6.out.setCell (.inl HOG.out) _
            refine hK.out _ _ (four_cells HBX.out) (fun hHeld2 => ?_)
            clear hK K HZ HM6 HBX6 c6 z6 HO6 HR6 hv9 hl6 HKB HMB HRB HVN HON H63 H48 HBXB HOB HSB HWB hcb c0d hsz3 hx3 hS
            refine wpAnyH_done (by kernel_rfl) ?_ _
            have hbx := four_cells HBX.out
            obtain ⟨x0, x1, x2, x3⟩ := hbx
            have g1 : wz.cell? ⟨g, 1, none⟩ = some (.int .i64 R.last) := by rw [cell_of_row _ _ _ _ _ _ HM9.out]; rfl
            have z1 : wz.frozen? ⟨g, 1, none⟩ = false := fz_of HM9.out 1
            go_wp2_with fail
            obtain ⟨wy, HY⟩ : ∃ wy, Hid (wz.setCell ⟨g, 1, none⟩ (.int .i64 q) = wy) := ⟨_, rfl⟩
            rw [HY.out]
            have HMY : Hid (wy.heap[g]? = some (.cells (memC v9 q R.ch) 44 (0, 0))) := by show _ = _; rw [← HY.out]; exact rf_set1 HM9.out
            have HBY : Hid (wy.heap[w.heap.size]? = some (.cells #[Value.string k, Value.string v, Value.bool d, Value.int IntKind.i64 q] 29)) := by show _ = _; rw [← HY.out, heap_set_ne _ _ _ (by omega)]; exact HBX.out
            have HOY : Hid (Only own w wy) := by show Only _ _ _; rw [← HY.out]; exact HOX.out.setCell (.inl HOG.out) _
            have HRY : Hid (wy.ownsRow 0 29 4 v9 (R.l ++ [(⟨k, v, d, q⟩ : E)]).length (flatE (R.l ++ [(⟨k, v, d, q⟩ : E)]))) := by show World.ownsRow _ _ _ _ _ _ _; rw [← HY.out]; exact row_block HROW.out (fun k hk => heap_set_ne _ _ _ (fun e => HNG.out (by rw [← e]; exact hk)))
            clear HY x0 x1 x2 x3 g1 z1 HM9 HBX HOX HROW
            have hy0 := four_cells HBY.out
            refine wp_region_held_drew (S := fun w' => w'.cell? ⟨w.heap.size, 0, none⟩ = some (.string k) ∧ w'.cell? ⟨w.heap.size, 1, none⟩ = some (.string v) ∧ w'.cell? ⟨w.heap.size, 2, none⟩ = some (.bool d) ∧ w'.cell? ⟨w.heap.size, 3, none⟩ = some (.int .i64 q)) (by kernel_rfl) hy0 (fun hS => ?_)
            refine wpAnyH_take (i := 0) (v := ?_) rfl (by kernel_rfl) (by kernel_rfl) (by kernel_rfl) (fun _ _ _ h => h) (Or.inl ⟨by rfl, ?_⟩) (by assumption) ?_
            rotate_left
            · (intro w hSw; (try dsimp only at hSw); go_simp; try with_reducible rfl)
            simp only [Act.put, List.getElem_toArray, List.getElem_cons_zero, List.setIfInBounds_toArray, List.set_cons_zero, List.set_cons_succ]
            refine wpAnyH_take (i := 1) (v := ?_) rfl (by kernel_rfl) (by kernel_rfl) (by kernel_rfl) (fun _ _ _ h => h) (Or.inl ⟨by rfl, ?_⟩) (by assumption) ?_
            rotate_left
            · (intro w hSw; (try dsimp only at hSw); go_simp; try with_reducible rfl)
            simp only [Act.put, List.getElem_toArray, List.getElem_cons_zero, List.getElem_cons_succ, List.setIfInBounds_toArray, List.set_cons_zero, List.set_cons_succ]
            refine wpAnyH_take (i := 2) (v := ?_) rfl (by kernel_rfl) (by kernel_rfl) (by kernel_rfl) (fun _ _ _ h => h) (Or.inl ⟨by rfl, ?_⟩) (by assumption) ?_
            rotate_left
            · (intro w hSw; (try dsimp only at hSw); go_simp; try with_reducible rfl)
            simp only [Act.put, List.getElem_toArray, List.getElem_cons_zero, List.getElem_cons_succ, List.setIfInBounds_toArray, List.set_cons_zero, List.set_cons_succ]
            refine wpAnyH_take (i := 3) (v := ?_) rfl (by kernel_rfl) (by kernel_rfl) (by kernel_rfl) (fun _ _ _ h => h) (Or.inl ⟨by rfl, ?_⟩) (by assumption) ?_
            rotate_left
            · (intro w hSw; (try dsimp only at hSw); go_simp; try with_reducible rfl)
            simp only [Act.put, List.getElem_toArray, List.getElem_cons_zero, List.getElem_cons_succ, List.setIfInBounds_toArray, List.set_cons_zero, List.set_cons_succ]
            refine wpAnyH_take (i := 5) (v := ?_) rfl (by kernel_rfl) (by kernel_rfl) (by kernel_rfl) (fun _ _ _ h => h) (Or.inl ⟨by rfl, ?_⟩) (by assumption) ?_
            rotate_left
            · (intro w hSw; (try dsimp only at hSw); go_simp; try with_reducible rfl)
            simp only [Act.put, List.getElem_toArray, List.getElem_cons_zero, List.getElem_cons_succ, List.setIfInBounds_toArray, List.set_cons_zero, List.set_cons_succ]
            refine wpAnyH_ready (rs := [4]) (by kernel_rfl) (by simp) ?_
            refine AllReadyH.cons rfl (fun K hK => ?_) AllReadyH.nil
            rw [if_pos (by rfl)]
            refine wp_load_mid 42 (.tmp 59) rfl g 2 rfl (cellsOf R.ch) _ (rf_range HMY.out) Tryd.underlying42 rfl (by rw [size42, cellsOf_length, HCL.out]) ?_
            refine hK.out _ _ hy0 (fun hHeld2 => ?_)
            clear hK K
            simp only [Act.put, List.getElem_toArray, List.getElem_cons_zero, List.getElem_cons_succ, List.setIfInBounds_toArray, List.set_cons_zero, List.set_cons_succ]
            refine wpAnyH_ready (rs := [6]) (by kernel_rfl) (by simp) ?_
            refine AllReadyH.cons rfl (fun K hK => ?_) AllReadyH.nil
            go_simp
            refine (link_any R.ch k v d q wy.drew HCL.out hk hv).mono ?_
            rintro e wv ⟨rfl, hbv⟩
            go_wp2_with fail
            have hev : wv.heap[w.heap.size]? = some (.cells #[Value.string k, Value.string v, Value.bool d, Value.int IntKind.i64 q] 29) := (hbv.block _ (heap_lt HBY.out)).trans HBY.out
            have HMV : Hid (wv.heap[g]? = some (.cells (memC v9 q R.ch) 44 (0, 0))) := (hbv.block _ (heap_lt HMY.out)).trans HMY.out
            have HOV : Hid (Only own w wv) := (HOY.out.drewN 1).trans (Only.of_below (own := own) hbv) (fun _ e => .inl e)
            have HRV : Hid (wv.ownsRow 0 29 4 v9 (R.l ++ [(⟨k, v, d, q⟩ : E)]).length (flatE (R.l ++ [(⟨k, v, d, q⟩ : E)]))) := row_block HRY.out (fun k hk => hbv.block k (HRY.out.lt k hk).2)
            refine hK.out _ _ (four_cells hev) (fun hHeld2 => ?_)
            clear hK K hbv HOY HRY HMY HBY hy0
            obtain ⟨D, HD⟩ : ∃ D, Hid (D = (cellsOf (linkB R.ch ⟨k, v, d, q⟩)).toArray) := ⟨_, rfl⟩
            have hDs : D.size = 32 := by rw [HD.out, List.size_toArray, cellsOf_length, linkB_len]
            have hD1 : D.all (·.oneCell') = true := by rw [HD.out]; exact dig_one _
            have HTH : Hid (wv.there g 2 D.size) := by show World.there _ _ _ _; rw [hDs]; exact rf_there HMV.out HCL.out
            rw [← HD.out]
            refine wpAnyH_take (i := 7) (v := ?_) rfl (by kernel_rfl) (by kernel_rfl) (by kernel_rfl) (fun _ _ _ h => h) (Or.inl ⟨by rfl, ?_⟩) (by assumption) ?_
            rotate_left
            · (intro w hSw; (try dsimp only at hSw); go_simp; try with_reducible rfl)
            simp only [Act.put, List.getElem_toArray, List.getElem_cons_zero, List.getElem_cons_succ, List.setIfInBounds_toArray, List.set_cons_zero, List.set_cons_succ]
            refine wpAnyH_take (i := 8) (v := ?_) rfl (by kernel_rfl) (by kernel_rfl) (by kernel_rfl) (fun _ _ _ h => h) (Or.inl ⟨by rfl, ?_⟩) (by assumption) ?_
            rotate_left
            · (intro w hSw; (try dsimp only at hSw); go_simp; try with_reducible rfl)
            simp only [Act.put, List.getElem_toArray, List.getElem_cons_zero, List.getElem_cons_succ, List.setIfInBounds_toArray, List.set_cons_zero, List.set_cons_succ]
            refine wpAnyH_ready (rs := [9]) (by kernel_rfl) (by simp) ?_
            refine AllReadyH.cons rfl (fun K hK => ?_) AllReadyH.nil
            rw [if_pos (by rfl)]
            refine wp_store_mid 42 (.tmp 64) (.tmp 62) rfl g 2 D rfl rfl HTH.out (by rw [size42, hDs]) hD1 ?_
            rw [HD.out, rf_chain HMV.out HCL.out (linkB_len _ _)]
            refine hK.out _ _ (four_cells ((setRow_other wv g w.heap.size _ (by omega)).trans hev)) (fun hHeld2 => ?_)
            clear hK K
            refine wpAnyH_done (by kernel_rfl) ?_ _
            clear hDs hD1 HTH hev HD
            go_wp2_with fail
            go_ret
            rw [HQ9.out]
            refine ⟨by rw [hn9]; rfl, ⟨HWF.out, v9, .inl HOG.out, ?_, row_block HRV.out (fun k hk => setRow_other wv g k _ (fun e => HNG.out (by rw [← e]; exact hk))), HRO.out⟩, HOV.out.setRow (.inl HOG.out) _⟩
            exact setRow_heap _ _ _ _ _ _ HMV.out
          · go_simp
            rw [HWB.out]
            refine hK.out _ _ (four_cells HBXB.out) (fun hHeld2 => ?_)
            clear hK K
            try simp only [Act.put, List.getElem_toArray, List.getElem_cons_zero, List.getElem_cons_succ, List.setIfInBounds_toArray, List.set_cons_zero, List.set_cons_succ]
            refine wpAnyH_ready (rs := [4]) (by kernel_rfl) (by simp) ?_
            refine AllReadyH.cons rfl (fun K hK => ?_) AllReadyH.nil
            go_simp
            refine hK.out _ _ (four_cells HBXB.out) (fun hHeld2 => ?_)
            clear hK K
            try simp only [Act.put, List.getElem_toArray, List.getElem_cons_zero, List.getElem_cons_succ, List.setIfInBounds_toArray, List.set_cons_zero, List.set_cons_succ]
            refine wpAnyH_ready (rs := [7]) (by kernel_rfl) (by simp) ?_
            refine AllReadyH.cons rfl (fun K hK => ?_) AllReadyH.nil
            rw [if_pos (by rfl)]
            refine wp_append_lies wb (.tmp 45) (.tmp 47) 35 rfl 0 29 ie0 _ 4 48 Tryd.underlying35 hie0 hze0 hze1 hze2 rfl (by decide) (.slice ao R.l.length c) R.l.length (flatE R.l) rfl HRB.out ⟨w5.heap.size, 0, none⟩ 1 1 (encE (⟨k, v, d, q⟩ : E)) rfl rfl HVN.out HON.out (by decide) H63.out H48.out (Nat.zero_le _) wb.heap.size rfl ?_
            intro b9 c9 w6 h6 hg6 hv6 hl6
            obtain ⟨v9, hv9⟩ : ∃ v9, v9 = Value.slice (some ⟨b9, 0, none⟩) (R.l.length + 1) c9 := ⟨_, rfl⟩
            have HM6 : Hid (w6.heap[g]? = some (.cells (memC (.slice ao R.l.length c) R.last R.ch) 44 (0, 0))) := (hg6.block g (heap_lt HMB.out) (fun e => (HKB.out g e.symm).2.1 rfl)).trans HMB.out
            have HBX6 : Hid (w6.heap[w.heap.size]? = some (.cells #[Value.string k, Value.string v, Value.bool d, Value.int IntKind.i64 q] 29)) := (hg6.block _ (heap_lt HBXB.out) (fun e => by have := (HKB.out _ e.symm).1; omega)).trans HBXB.out
            have c6 : w6.cell? ⟨g, 0, none⟩ = some (.slice ao R.l.length c) := (cell_of_row _ _ _ _ _ _ HM6.out).trans rfl
            have z6 : w6.frozen? ⟨g, 0, none⟩ = false := fz_of HM6.out 0
            have HNG : Hid (v9.ownBlock ≠ some g) := by
              show _ ≠ _
              rw [hv9]
              intro e
              have e3 : b9 = g := by simpa [Value.ownBlock] using e
              rcases hv6 with e2 | e2
              · exact (HKB.out b9 e2).2.1 e3
              · have := HSB.out; omega
            have HRO : Hid (∀ k, v9.ownBlock = some k → grow own w k) := fun kk hk => by
              rw [hv9] at hk
              have e3 : b9 = kk := by simpa [Value.ownBlock] using hk
              rcases hv6 with e2 | e2
              · exact .inl (by rw [← e3]; exact (HKB.out b9 e2).2.2)
              · exact .inr (by have := HSB.out; omega)
            have HO6 : Hid (Only own w w6) := HOB.out.grown hg6 (fun kk e => .inl (HKB.out kk e).2.2)
            have HR6 : Hid (w6.ownsRow 0 29 4 v9 (R.l ++ [(⟨k, v, d, q⟩ : E)]).length (flatE (R.l ++ [(⟨k, v, d, q⟩ : E)]))) := by
              show World.ownsRow _ _ _ _ _ _ _
              rw [List.length_append, flatE_append, hv9]
              simpa [flatE] using h6
            refine hK.out _ _ (four_cells HBX6.out) (fun hHeld2 => ?_)
            clear hK K h6 hg6 hv6
            try simp only [Act.put, List.getElem_toArray, List.getElem_cons_zero, List.getElem_cons_succ, List.setIfInBounds_toArray, List.set_cons_zero, List.set_cons_succ]
            refine wpAnyH_take (i := 8) (v := ?_) rfl (by kernel_rfl) (by kernel_rfl) (by kernel_rfl) (fun _ _ _ h => h) (Or.inl ⟨by rfl, ?_⟩) (by assumption) ?_
            rotate_left
            · (intro w hSw; (try dsimp only at hSw); go_simp; try with_reducible rfl)
            simp only [Act.put, List.getElem_toArray, List.getElem_cons_zero, List.getElem_cons_succ, List.setIfInBounds_toArray, List.set_cons_zero, List.set_cons_succ]
            refine wpAnyH_take (i := 9) (v := ?_) rfl (by kernel_rfl) (by kernel_rfl) (by kernel_rfl) (fun _ _ _ h => h) (Or.inl ⟨by rfl, ?_⟩) (by assumption) ?_
            rotate_left
            · (intro w hSw; (try dsimp only at hSw); go_simp; try with_reducible rfl)
            simp only [Act.put, List.getElem_toArray, List.getElem_cons_zero, List.getElem_cons_succ, List.setIfInBounds_toArray, List.set_cons_zero, List.set_cons_succ]
            refine wpAnyH_ready (rs := [10]) (by kernel_rfl) (by simp) ?_
            refine AllReadyH.cons rfl (fun K hK => ?_) AllReadyH.nil
            go_simp
            rw [← hv9]
            obtain ⟨wz, HZ⟩ : ∃ wz, Hid (w6.setCell ⟨g, 0, none⟩ v9 = wz) := ⟨_, rfl⟩
            rw [HZ.out]
            have HM9 : Hid (wz.heap[g]? = some (.cells (memC v9 R.last R.ch) 44 (0, 0))) := by show _ = _; rw [← HZ.out]; exact rf_set0 HM6.out
            have HBX : Hid (wz.heap[w.heap.size]? = some (.cells #[Value.string k, Value.string v, Value.bool d, Value.int IntKind.i64 q] 29)) := by show _ = _; rw [← HZ.out, heap_set_ne _ _ _ (by omega)]; exact HBX6.out
            have HROW : Hid (wz.ownsRow 0 29 4 v9 (R.l ++ [(⟨k, v, d, q⟩ : E)]).length (flatE (R.l ++ [(⟨k, v, d, q⟩ : E)]))) := by show World.ownsRow _ _ _ _ _ _ _; rw [← HZ.out]; exact row_block HR6.out (fun k hk => heap_set_ne _ _ _ (fun e => HNG.out (by rw [← e]; exact hk)))
            have HOX : Hid (Only own w wz) := by show Only _ _ _; rw [← HZ.out]; exact HO6.out.setCell (.inl HOG.out) _
            refine hK.out _ _ (four_cells HBX.out) (fun hHeld2 => ?_)
            clear hK K HZ HM6 HBX6 c6 z6 HO6 HR6 hv9 hl6 HKB HMB HRB HVN HON H63 H48 HBXB HOB HSB HWB hcb c0d hsz3 hx3 hS
            refine wpAnyH_done (by kernel_rfl) ?_ _
            have hbx := four_cells HBX.out
            obtain ⟨x0, x1, x2, x3⟩ := hbx
            have g1 : wz.cell? ⟨g, 1, none⟩ = some (.int .i64 R.last) := by rw [cell_of_row _ _ _ _ _ _ HM9.out]; rfl
            have z1 : wz.frozen? ⟨g, 1, none⟩ = false := fz_of HM9.out 1
            go_wp2_with fail
            obtain ⟨wy, HY⟩ : ∃ wy, Hid (wz.setCell ⟨g, 1, none⟩ (.int .i64 q) = wy) := ⟨_, rfl⟩
            rw [HY.out]
            have HMY : Hid (wy.heap[g]? = some (.cells (memC v9 q R.ch) 44 (0, 0))) := by show _ = _; rw [← HY.out]; exact rf_set1 HM9.out
            have HBY : Hid (wy.heap[w.heap.size]? = some (.cells #[Value.string k, Value.string v, Value.bool d, Value.int IntKind.i64 q] 29)) := by show _ = _; rw [← HY.out, heap_set_ne _ _ _ (by omega)]; exact HBX.out
            have HOY : Hid (Only own w wy) := by show Only _ _ _; rw [← HY.out]; exact HOX.out.setCell (.inl HOG.out) _
            have HRY : Hid (wy.ownsRow 0 29 4 v9 (R.l ++ [(⟨k, v, d, q⟩ : E)]).length (flatE (R.l ++ [(⟨k, v, d, q⟩ : E)]))) := by show World.ownsRow _ _ _ _ _ _ _; rw [← HY.out]; exact row_block HROW.out (fun k hk => heap_set_ne _ _ _ (fun e => HNG.out (by rw [← e]; exact hk)))
            clear HY x0 x1 x2 x3 g1 z1 HM9 HBX HOX HROW
            have hy0 := four_cells HBY.out
            refine wp_region_held_drew (S := fun w' => w'.cell? ⟨w.heap.size, 0, none⟩ = some (.string k) ∧ w'.cell? ⟨w.heap.size, 1, none⟩ = some (.string v) ∧ w'.cell? ⟨w.heap.size, 2, none⟩ = some (.bool d) ∧ w'.cell? ⟨w.heap.size, 3, none⟩ = some (.int .i64 q)) (by kernel_rfl) hy0 (fun hS => ?_)
            refine wpAnyH_take (i := 0) (v := ?_) rfl (by kernel_rfl) (by kernel_rfl) (by kernel_rfl) (fun _ _ _ h => h) (Or.inl ⟨by rfl, ?_⟩) (by assumption) ?_
            rotate_left
            · (intro w hSw; (try dsimp only at hSw); go_simp; try with_reducible rfl)
            simp only [Act.put, List.getElem_toArray, List.getElem_cons_zero, List.setIfInBounds_toArray, List.set_cons_zero, List.set_cons_succ]
            refine wpAnyH_take (i := 1) (v := ?_) rfl (by kernel_rfl) (by kernel_rfl) (by kernel_rfl) (fun _ _ _ h => h) (Or.inl ⟨by rfl, ?_⟩) (by assumption) ?_
            rotate_left
            · (intro w hSw; (try dsimp only at hSw); go_simp; try with_reducible rfl)
            simp only [Act.put, List.getElem_toArray, List.getElem_cons_zero, List.getElem_cons_succ, List.setIfInBounds_toArray, List.set_cons_zero, List.set_cons_succ]
            refine wpAnyH_take (i := 2) (v := ?_) rfl (by kernel_rfl) (by kernel_rfl) (by kernel_rfl) (fun _ _ _ h => h) (Or.inl ⟨by rfl, ?_⟩) (by assumption) ?_
            rotate_left
            · (intro w hSw; (try dsimp only at hSw); go_simp; try with_reducible rfl)
            simp only [Act.put, List.getElem_toArray, List.getElem_cons_zero, List.getElem_cons_succ, List.setIfInBounds_toArray, List.set_cons_zero, List.set_cons_succ]
            refine wpAnyH_take (i := 3) (v := ?_) rfl (by kernel_rfl) (by kernel_rfl) (by kernel_rfl) (fun _ _ _ h => h) (Or.inl ⟨by rfl, ?_⟩) (by assumption) ?_
            rotate_left
            · (intro w hSw; (try dsimp only at hSw); go_simp; try with_reducible rfl)
            simp only [Act.put, List.getElem_toArray, List.getElem_cons_zero, List.getElem_cons_succ, List.setIfInBounds_toArray, List.set_cons_zero, List.set_cons_succ]
            refine wpAnyH_take (i := 5) (v := ?_) rfl (by kernel_rfl) (by kernel_rfl) (by kernel_rfl) (fun _ _ _ h => h) (Or.inl ⟨by rfl, ?_⟩) (by assumption) ?_
            rotate_left
            · (intro w hSw; (try dsimp only at hSw); go_simp; try with_reducible rfl)
            simp only [Act.put, List.getElem_toArray, List.getElem_cons_zero, List.getElem_cons_succ, List.setIfInBounds_toArray, List.set_cons_zero, List.set_cons_succ]
            refine wpAnyH_ready (rs := [4]) (by kernel_rfl) (by simp) ?_
            refine AllReadyH.cons rfl (fun K hK => ?_) AllReadyH.nil
            rw [if_pos (by rfl)]
            refine wp_load_mid 42 (.tmp 59) rfl g 2 rfl (cellsOf R.ch) _ (rf_range HMY.out) Tryd.underlying42 rfl (by rw [size42, cellsOf_length, HCL.out]) ?_
            refine hK.out _ _ hy0 (fun hHeld2 => ?_)
            clear hK K
            simp only [Act.put, List.getElem_toArray, List.getElem_cons_zero, List.getElem_cons_succ, List.setIfInBounds_toArray, List.set_cons_zero, List.set_cons_succ]
            refine wpAnyH_ready (rs := [6]) (by kernel_rfl) (by simp) ?_
            refine AllReadyH.cons rfl (fun K hK => ?_) AllReadyH.nil
            go_simp
            refine (link_any R.ch k v d q wy.drew HCL.out hk hv).mono ?_
            rintro e wv ⟨rfl, hbv⟩
            go_wp2_with fail
            have hev : wv.heap[w.heap.size]? = some (.cells #[Value.string k, Value.string v, Value.bool d, Value.int IntKind.i64 q] 29) := (hbv.block _ (heap_lt HBY.out)).trans HBY.out
            have HMV : Hid (wv.heap[g]? = some (.cells (memC v9 q R.ch) 44 (0, 0))) := (hbv.block _ (heap_lt HMY.out)).trans HMY.out
            have HOV : Hid (Only own w wv) := (HOY.out.drewN 1).trans (Only.of_below (own := own) hbv) (fun _ e => .inl e)
            have HRV : Hid (wv.ownsRow 0 29 4 v9 (R.l ++ [(⟨k, v, d, q⟩ : E)]).length (flatE (R.l ++ [(⟨k, v, d, q⟩ : E)]))) := row_block HRY.out (fun k hk => hbv.block k (HRY.out.lt k hk).2)
            refine hK.out _ _ (four_cells hev) (fun hHeld2 => ?_)
            clear hK K hbv HOY HRY HMY HBY hy0
            obtain ⟨D, HD⟩ : ∃ D, Hid (D = (cellsOf (linkB R.ch ⟨k, v, d, q⟩)).toArray) := ⟨_, rfl⟩
            have hDs : D.size = 32 := by rw [HD.out, List.size_toArray, cellsOf_length, linkB_len]
            have hD1 : D.all (·.oneCell') = true := by rw [HD.out]; exact dig_one _
            have HTH : Hid (wv.there g 2 D.size) := by show World.there _ _ _ _; rw [hDs]; exact rf_there HMV.out HCL.out
            rw [← HD.out]
            refine wpAnyH_take (i := 7) (v := ?_) rfl (by kernel_rfl) (by kernel_rfl) (by kernel_rfl) (fun _ _ _ h => h) (Or.inl ⟨by rfl, ?_⟩) (by assumption) ?_
            rotate_left
            · (intro w hSw; (try dsimp only at hSw); go_simp; try with_reducible rfl)
            simp only [Act.put, List.getElem_toArray, List.getElem_cons_zero, List.getElem_cons_succ, List.setIfInBounds_toArray, List.set_cons_zero, List.set_cons_succ]
            refine wpAnyH_take (i := 8) (v := ?_) rfl (by kernel_rfl) (by kernel_rfl) (by kernel_rfl) (fun _ _ _ h => h) (Or.inl ⟨by rfl, ?_⟩) (by assumption) ?_
            rotate_left
            · (intro w hSw; (try dsimp only at hSw); go_simp; try with_reducible rfl)
            simp only [Act.put, List.getElem_toArray, List.getElem_cons_zero, List.getElem_cons_succ, List.setIfInBounds_toArray, List.set_cons_zero, List.set_cons_succ]
            refine wpAnyH_ready (rs := [9]) (by kernel_rfl) (by simp) ?_
            refine AllReadyH.cons rfl (fun K hK => ?_) AllReadyH.nil
            rw [if_pos (by rfl)]
            refine wp_store_mid 42 (.tmp 64) (.tmp 62) rfl g 2 D rfl rfl HTH.out (by rw [size42, hDs]) hD1 ?_
            rw [HD.out, rf_chain HMV.out HCL.out (linkB_len _ _)]
            refine hK.out _ _ (four_cells ((setRow_other wv g w.heap.size _ (by omega)).trans hev)) (fun hHeld2 => ?_)
            clear hK K
            refine wpAnyH_done (by kernel_rfl) ?_ _
            clear hDs hD1 HTH hev HD
            go_wp2_with fail
            go_ret
            rw [HQ9.out]
            refine ⟨by rw [hn9]; rfl, ⟨HWF.out, v9, .inl HOG.out, ?_, row_block HRV.out (fun k hk => setRow_other wv g k _ (fun e => HNG.out (by rw [← e]; exact hk))), HRO.out⟩, HOV.out.setRow (.inl HOG.out) _⟩
            exact setRow_heap _ _ _ _ _ _ HMV.out
        · have hz : ¬ ((64 : Int) ≤ (nf : Int)) := by omega
          have dz : decide ((64 : Int) ≤ (nf : Int)) = false := decide_eq_false hz
          clear hfulz hnf
          go_wp2_with fail
          refine wp_region_held_drew (S := fun w' => w'.cell? ⟨w.heap.size, 0, none⟩ = some (.string k) ∧ w'.cell? ⟨w.heap.size, 1, none⟩ = some (.string v) ∧ w'.cell? ⟨w.heap.size, 2, none⟩ = some (.bool d) ∧ w'.cell? ⟨w.heap.size, 3, none⟩ = some (.int .i64 q)) (by kernel_rfl) hx3 (fun hS => ?_)
          refine wpAnyH_take (i := 0) (v := ?_) rfl (by kernel_rfl) (by kernel_rfl) (by kernel_rfl) (fun _ _ _ h => h) (Or.inl ⟨by rfl, ?_⟩) (by assumption) ?_
          rotate_left
          · (intro w hSw; (try dsimp only at hSw); go_simp; try with_reducible rfl)
          simp only [Act.put, List.getElem_toArray, List.getElem_cons_zero, List.setIfInBounds_toArray, List.set_cons_zero, List.set_cons_succ]
          refine wpAnyH_take (i := 1) (v := ?_) rfl (by kernel_rfl) (by kernel_rfl) (by kernel_rfl) (fun _ _ _ h => h) (Or.inl ⟨by rfl, ?_⟩) (by assumption) ?_
          rotate_left
          · (intro w hSw; (try dsimp only at hSw); go_simp; try with_reducible rfl)
          simp only [Act.put, List.getElem_toArray, List.getElem_cons_zero, List.getElem_cons_succ, List.setIfInBounds_toArray, List.set_cons_zero, List.set_cons_succ]
          refine wpAnyH_take (i := 2) (v := ?_) rfl (by kernel_rfl) (by kernel_rfl) (by kernel_rfl) (fun _ _ _ h => h) (Or.inl ⟨by rfl, ?_⟩) (by assumption) ?_
          rotate_left
          · (intro w hSw; (try dsimp only at hSw); go_simp; try with_reducible rfl)
          simp only [Act.put, List.getElem_toArray, List.getElem_cons_zero, List.getElem_cons_succ, List.setIfInBounds_toArray, List.set_cons_zero, List.set_cons_succ]
          refine wpAnyH_take (i := 3) (v := ?_) rfl (by kernel_rfl) (by kernel_rfl) (by kernel_rfl) (fun _ _ _ h => h) (Or.inl ⟨by rfl, ?_⟩) (by assumption) ?_
          rotate_left
          · (intro w hSw; (try dsimp only at hSw); go_simp; try with_reducible rfl)
          simp only [Act.put, List.getElem_toArray, List.getElem_cons_zero, List.getElem_cons_succ, List.setIfInBounds_toArray, List.set_cons_zero, List.set_cons_succ]
          refine wpAnyH_take (i := 5) (v := ?_) rfl (by kernel_rfl) (by kernel_rfl) (by kernel_rfl) (fun _ _ _ h => h) (Or.inl ⟨by rfl, ?_⟩) (by assumption) ?_
          rotate_left
          · (intro w hSw; (try dsimp only at hSw); go_simp; try with_reducible rfl)
          simp only [Act.put, List.getElem_toArray, List.getElem_cons_zero, List.getElem_cons_succ, List.setIfInBounds_toArray, List.set_cons_zero, List.set_cons_succ]
          refine wpAnyH_ready (rs := [4, 6]) (by kernel_rfl) (by simp) ?_
          refine AllReadyH.cons rfl (fun K hK => ?_) (AllReadyH.cons rfl (fun K hK => ?_) AllReadyH.nil)
          · go_simp
            refine hK.out _ _ hx3 (fun hHeld2 => ?_)
            clear hK K
            try simp only [Act.put, List.getElem_toArray, List.getElem_cons_zero, List.getElem_cons_succ, List.setIfInBounds_toArray, List.set_cons_zero, List.set_cons_succ]
            refine wpAnyH_ready (rs := [6]) (by kernel_rfl) (by simp) ?_
            refine AllReadyH.cons rfl (fun K hK => ?_) AllReadyH.nil
            go_simp
            rw [HWB.out]
            refine hK.out _ _ (four_cells HBXB.out) (fun hHeld2 => ?_)
            clear hK K
            try simp only [Act.put, List.getElem_toArray, List.getElem_cons_zero, List.getElem_cons_succ, List.setIfInBounds_toArray, List.set_cons_zero, List.set_cons_succ]
            refine wpAnyH_ready (rs := [7]) (by kernel_rfl) (by simp) ?_
            refine AllReadyH.cons rfl (fun K hK => ?_) AllReadyH.nil
            rw [if_pos (by rfl)]
            refine wp_append_lies wb (.tmp 45) (.tmp 47) 35 rfl 0 29 ie0 _ 4 48 Tryd.underlying35 hie0 hze0 hze1 hze2 rfl (by decide) (.slice ao R.l.length c) R.l.length (flatE R.l) rfl HRB.out ⟨w5.heap.size, 0, none⟩ 1 1 (encE (⟨k, v, d, q⟩ : E)) rfl rfl HVN.out HON.out (by decide) H63.out H48.out (Nat.zero_le _) wb.heap.size rfl ?_
            intro b9 c9 w6 h6 hg6 hv6 hl6
            obtain ⟨v9, hv9⟩ : ∃ v9, v9 = Value.slice (some ⟨b9, 0, none⟩) (R.l.length + 1) c9 := ⟨_, rfl⟩
            have HM6 : Hid (w6.heap[g]? = some (.cells (memC (.slice ao R.l.length c) R.last R.ch) 44 (0, 0))) := (hg6.block g (heap_lt HMB.out) (fun e => (HKB.out g e.symm).2.1 rfl)).trans HMB.out
            have HBX6 : Hid (w6.heap[w.heap.size]? = some (.cells #[Value.string k, Value.string v, Value.bool d, Value.int IntKind.i64 q] 29)) := (hg6.block _ (heap_lt HBXB.out) (fun e => by have := (HKB.out _ e.symm).1; omega)).trans HBXB.out
            have c6 : w6.cell? ⟨g, 0, none⟩ = some (.slice ao R.l.length c) := (cell_of_row _ _ _ _ _ _ HM6.out).trans rfl
            have z6 : w6.frozen? ⟨g, 0, none⟩ = false := fz_of HM6.out 0
            have HNG : Hid (v9.ownBlock ≠ some g) := by
              show _ ≠ _
              rw [hv9]
              intro e
              have e3 : b9 = g := by simpa [Value.ownBlock] using e
              rcases hv6 with e2 | e2
              · exact (HKB.out b9 e2).2.1 e3
              · have := HSB.out; omega
            have HRO : Hid (∀ k, v9.ownBlock = some k → grow own w k) := fun kk hk => by
              rw [hv9] at hk
              have e3 : b9 = kk := by simpa [Value.ownBlock] using hk
              rcases hv6 with e2 | e2
              · exact .inl (by rw [← e3]; exact (HKB.out b9 e2).2.2)
              · exact .inr (by have := HSB.out; omega)
            have HO6 : Hid (Only own w w6) := HOB.out.grown hg6 (fun kk e => .inl (HKB.out kk e).2.2)
            have HR6 : Hid (w6.ownsRow 0 29 4 v9 (R.l ++ [(⟨k, v, d, q⟩ : E)]).length (flatE (R.l ++ [(⟨k, v, d, q⟩ : E)]))) := by
              show World.ownsRow _ _ _ _ _ _ _
              rw [List.length_append, flatE_append, hv9]
              simpa [flatE] using h6
            refine hK.out _ _ (four_cells HBX6.out) (fun hHeld2 => ?_)
            clear hK K h6 hg6 hv6
            try simp only [Act.put, List.getElem_toArray, List.getElem_cons_zero, List.getElem_cons_succ, List.setIfInBounds_toArray, List.set_cons_zero, List.set_cons_succ]
            refine wpAnyH_take (i := 8) (v := ?_) rfl (by kernel_rfl) (by kernel_rfl) (by kernel_rfl) (fun _ _ _ h => h) (Or.inl ⟨by rfl, ?_⟩) (by assumption) ?_
            rotate_left
            · (intro w hSw; (try dsimp only at hSw); go_simp; try with_reducible rfl)
            simp only [Act.put, List.getElem_toArray, List.getElem_cons_zero, List.getElem_cons_succ, List.setIfInBounds_toArray, List.set_cons_zero, List.set_cons_succ]
            refine wpAnyH_take (i := 9) (v := ?_) rfl (by kernel_rfl) (by kernel_rfl) (by kernel_rfl) (fun _ _ _ h => h) (Or.inl ⟨by rfl, ?_⟩) (by assumption) ?_
            rotate_left
            · (intro w hSw; (try dsimp only at hSw); go_simp; try with_reducible rfl)
            simp only [Act.put, List.getElem_toArray, List.getElem_cons_zero, List.getElem_cons_succ, List.setIfInBounds_toArray, List.set_cons_zero, List.set_cons_succ]
            refine wpAnyH_ready (rs := [10]) (by kernel_rfl) (by simp) ?_
            refine AllReadyH.cons rfl (fun K hK => ?_) AllReadyH.nil
            go_simp
            rw [← hv9]
            obtain ⟨wz, HZ⟩ : ∃ wz, Hid (w6.setCell ⟨g, 0, none⟩ v9 = wz) := ⟨_, rfl⟩
            rw [HZ.out]
            have HM9 : Hid (wz.heap[g]? = some (.cells (memC v9 R.last R.ch) 44 (0, 0))) := by show _ = _; rw [← HZ.out]; exact rf_set0 HM6.out
            have HBX : Hid (wz.heap[w.heap.size]? = some (.cells #[Value.string k, Value.string v, Value.bool d, Value.int IntKind.i64 q] 29)) := by show _ = _; rw [← HZ.out, heap_set_ne _ _ _ (by omega)]; exact HBX6.out
            have HROW : Hid (wz.ownsRow 0 29 4 v9 (R.l ++ [(⟨k, v, d, q⟩ : E)]).length (flatE (R.l ++ [(⟨k, v, d, q⟩ : E)]))) := by show World.ownsRow _ _ _ _ _ _ _; rw [← HZ.out]; exact row_block HR6.out (fun k hk => heap_set_ne _ _ _ (fun e => HNG.out (by rw [← e]; exact hk)))
            have HOX : Hid (Only own w wz) := by show Only _ _ _; rw [← HZ.out]; exact HO6.out.setCell (.inl HOG.out) _
            refine hK.out _ _ (four_cells HBX.out) (fun hHeld2 => ?_)
            clear hK K HZ HM6 HBX6 c6 z6 HO6 HR6 hv9 hl6 HKB HMB HRB HVN HON H63 H48 HBXB HOB HSB HWB hcb c0d hsz3 hx3 hS
            refine wpAnyH_done (by kernel_rfl) ?_ _
            have hbx := four_cells HBX.out
            obtain ⟨x0, x1, x2, x3⟩ := hbx
            have g1 : wz.cell? ⟨g, 1, none⟩ = some (.int .i64 R.last) := by rw [cell_of_row _ _ _ _ _ _ HM9.out]; rfl
            have z1 : wz.frozen? ⟨g, 1, none⟩ = false := fz_of HM9.out 1
            go_wp2_with fail
            obtain ⟨wy, HY⟩ : ∃ wy, Hid (wz.setCell ⟨g, 1, none⟩ (.int .i64 q) = wy) := ⟨_, rfl⟩
            rw [HY.out]
            have HMY : Hid (wy.heap[g]? = some (.cells (memC v9 q R.ch) 44 (0, 0))) := by show _ = _; rw [← HY.out]; exact rf_set1 HM9.out
            have HBY : Hid (wy.heap[w.heap.size]? = some (.cells #[Value.string k, Value.string v, Value.bool d, Value.int IntKind.i64 q] 29)) := by show _ = _; rw [← HY.out, heap_set_ne _ _ _ (by omega)]; exact HBX.out
            have HOY : Hid (Only own w wy) := by show Only _ _ _; rw [← HY.out]; exact HOX.out.setCell (.inl HOG.out) _
            have HRY : Hid (wy.ownsRow 0 29 4 v9 (R.l ++ [(⟨k, v, d, q⟩ : E)]).length (flatE (R.l ++ [(⟨k, v, d, q⟩ : E)]))) := by show World.ownsRow _ _ _ _ _ _ _; rw [← HY.out]; exact row_block HROW.out (fun k hk => heap_set_ne _ _ _ (fun e => HNG.out (by rw [← e]; exact hk)))
            clear HY x0 x1 x2 x3 g1 z1 HM9 HBX HOX HROW
            have hy0 := four_cells HBY.out
            refine wp_region_held_drew (S := fun w' => w'.cell? ⟨w.heap.size, 0, none⟩ = some (.string k) ∧ w'.cell? ⟨w.heap.size, 1, none⟩ = some (.string v) ∧ w'.cell? ⟨w.heap.size, 2, none⟩ = some (.bool d) ∧ w'.cell? ⟨w.heap.size, 3, none⟩ = some (.int .i64 q)) (by kernel_rfl) hy0 (fun hS => ?_)
            refine wpAnyH_take (i := 0) (v := ?_) rfl (by kernel_rfl) (by kernel_rfl) (by kernel_rfl) (fun _ _ _ h => h) (Or.inl ⟨by rfl, ?_⟩) (by assumption) ?_
            rotate_left
            · (intro w hSw; (try dsimp only at hSw); go_simp; try with_reducible rfl)
            simp only [Act.put, List.getElem_toArray, List.getElem_cons_zero, List.setIfInBounds_toArray, List.set_cons_zero, List.set_cons_succ]
            refine wpAnyH_take (i := 1) (v := ?_) rfl (by kernel_rfl) (by kernel_rfl) (by kernel_rfl) (fun _ _ _ h => h) (Or.inl ⟨by rfl, ?_⟩) (by assumption) ?_
            rotate_left
            · (intro w hSw; (try dsimp only at hSw); go_simp; try with_reducible rfl)
            simp only [Act.put, List.getElem_toArray, List.getElem_cons_zero, List.getElem_cons_succ, List.setIfInBounds_toArray, List.set_cons_zero, List.set_cons_succ]
            refine wpAnyH_take (i := 2) (v := ?_) rfl (by kernel_rfl) (by kernel_rfl) (by kernel_rfl) (fun _ _ _ h => h) (Or.inl ⟨by rfl, ?_⟩) (by assumption) ?_
            rotate_left
            · (intro w hSw; (try dsimp only at hSw); go_simp; try with_reducible rfl)
            simp only [Act.put, List.getElem_toArray, List.getElem_cons_zero, List.getElem_cons_succ, List.setIfInBounds_toArray, List.set_cons_zero, List.set_cons_succ]
            refine wpAnyH_take (i := 3) (v := ?_) rfl (by kernel_rfl) (by kernel_rfl) (by kernel_rfl) (fun _ _ _ h => h) (Or.inl ⟨by rfl, ?_⟩) (by assumption) ?_
            rotate_left
            · (intro w hSw; (try dsimp only at hSw); go_simp; try with_reducible rfl)
            simp only [Act.put, List.getElem_toArray, List.getElem_cons_zero, List.getElem_cons_succ, List.setIfInBounds_toArray, List.set_cons_zero, List.set_cons_succ]
            refine wpAnyH_take (i := 5) (v := ?_) rfl (by kernel_rfl) (by kernel_rfl) (by kernel_rfl) (fun _ _ _ h => h) (Or.inl ⟨by rfl, ?_⟩) (by assumption) ?_
            rotate_left
            · (intro w hSw; (try dsimp only at hSw); go_simp; try with_reducible rfl)
            simp only [Act.put, List.getElem_toArray, List.getElem_cons_zero, List.getElem_cons_succ, List.setIfInBounds_toArray, List.set_cons_zero, List.set_cons_succ]
            refine wpAnyH_ready (rs := [4]) (by kernel_rfl) (by simp) ?_
            refine AllReadyH.cons rfl (fun K hK => ?_) AllReadyH.nil
            rw [if_pos (by rfl)]
            refine wp_load_mid 42 (.tmp 59) rfl g 2 rfl (cellsOf R.ch) _ (rf_range HMY.out) Tryd.underlying42 rfl (by rw [size42, cellsOf_length, HCL.out]) ?_
            refine hK.out _ _ hy0 (fun hHeld2 => ?_)
            clear hK K
            simp only [Act.put, List.getElem_toArray, List.getElem_cons_zero, List.getElem_cons_succ, List.setIfInBounds_toArray, List.set_cons_zero, List.set_cons_succ]
            refine wpAnyH_ready (rs := [6]) (by kernel_rfl) (by simp) ?_
            refine AllReadyH.cons rfl (fun K hK => ?_) AllReadyH.nil
            go_simp
            refine (link_any R.ch k v d q wy.drew HCL.out hk hv).mono ?_
            rintro e wv ⟨rfl, hbv⟩
            go_wp2_with fail
            have hev : wv.heap[w.heap.size]? = some (.cells #[Value.string k, Value.string v, Value.bool d, Value.int IntKind.i64 q] 29) := (hbv.block _ (heap_lt HBY.out)).trans HBY.out
            have HMV : Hid (wv.heap[g]? = some (.cells (memC v9 q R.ch) 44 (0, 0))) := (hbv.block _ (heap_lt HMY.out)).trans HMY.out
            have HOV : Hid (Only own w wv) := (HOY.out.drewN 1).trans (Only.of_below (own := own) hbv) (fun _ e => .inl e)
            have HRV : Hid (wv.ownsRow 0 29 4 v9 (R.l ++ [(⟨k, v, d, q⟩ : E)]).length (flatE (R.l ++ [(⟨k, v, d, q⟩ : E)]))) := row_block HRY.out (fun k hk => hbv.block k (HRY.out.lt k hk).2)
            refine hK.out _ _ (four_cells hev) (fun hHeld2 => ?_)
            clear hK K hbv HOY HRY HMY HBY hy0
            obtain ⟨D, HD⟩ : ∃ D, Hid (D = (cellsOf (linkB R.ch ⟨k, v, d, q⟩)).toArray) := ⟨_, rfl⟩
            have hDs : D.size = 32 := by rw [HD.out, List.size_toArray, cellsOf_length, linkB_len]
            have hD1 : D.all (·.oneCell') = true := by rw [HD.out]; exact dig_one _
            have HTH : Hid (wv.there g 2 D.size) := by show World.there _ _ _ _; rw [hDs]; exact rf_there HMV.out HCL.out
            rw [← HD.out]
            refine wpAnyH_take (i := 7) (v := ?_) rfl (by kernel_rfl) (by kernel_rfl) (by kernel_rfl) (fun _ _ _ h => h) (Or.inl ⟨by rfl, ?_⟩) (by assumption) ?_
            rotate_left
            · (intro w hSw; (try dsimp only at hSw); go_simp; try with_reducible rfl)
            simp only [Act.put, List.getElem_toArray, List.getElem_cons_zero, List.getElem_cons_succ, List.setIfInBounds_toArray, List.set_cons_zero, List.set_cons_succ]
            refine wpAnyH_take (i := 8) (v := ?_) rfl (by kernel_rfl) (by kernel_rfl) (by kernel_rfl) (fun _ _ _ h => h) (Or.inl ⟨by rfl, ?_⟩) (by assumption) ?_
            rotate_left
            · (intro w hSw; (try dsimp only at hSw); go_simp; try with_reducible rfl)
            simp only [Act.put, List.getElem_toArray, List.getElem_cons_zero, List.getElem_cons_succ, List.setIfInBounds_toArray, List.set_cons_zero, List.set_cons_succ]
            refine wpAnyH_ready (rs := [9]) (by kernel_rfl) (by simp) ?_
            refine AllReadyH.cons rfl (fun K hK => ?_) AllReadyH.nil
            rw [if_pos (by rfl)]
            refine wp_store_mid 42 (.tmp 64) (.tmp 62) rfl g 2 D rfl rfl HTH.out (by rw [size42, hDs]) hD1 ?_
            rw [HD.out, rf_chain HMV.out HCL.out (linkB_len _ _)]
            refine hK.out _ _ (four_cells ((setRow_other wv g w.heap.size _ (by omega)).trans hev)) (fun hHeld2 => ?_)
            clear hK K
            refine wpAnyH_done (by kernel_rfl) ?_ _
            clear hDs hD1 HTH hev HD
            go_wp2_with fail
            go_ret
            rw [HQ9.out]
            refine ⟨by rw [hn9]; rfl, ⟨HWF.out, v9, .inl HOG.out, ?_, row_block HRV.out (fun k hk => setRow_other wv g k _ (fun e => HNG.out (by rw [← e]; exact hk))), HRO.out⟩, HOV.out.setRow (.inl HOG.out) _⟩
            exact setRow_heap _ _ _ _ _ _ HMV.out
          · go_simp
            rw [HWB.out]
            refine hK.out _ _ (four_cells HBXB.out) (fun hHeld2 => ?_)
            clear hK K
            try simp only [Act.put, List.getElem_toArray, List.getElem_cons_zero, List.getElem_cons_succ, List.setIfInBounds_toArray, List.set_cons_zero, List.set_cons_succ]
            refine wpAnyH_ready (rs := [4]) (by kernel_rfl) (by simp) ?_
            refine AllReadyH.cons rfl (fun K hK => ?_) AllReadyH.nil
            go_simp
            refine hK.out _ _ (four_cells HBXB.out) (fun hHeld2 => ?_)
            clear hK K
            try simp only [Act.put, List.getElem_toArray, List.getElem_cons_zero, List.getElem_cons_succ, List.setIfInBounds_toArray, List.set_cons_zero, List.set_cons_succ]
            refine wpAnyH_ready (rs := [7]) (by kernel_rfl) (by simp) ?_
            refine AllReadyH.cons rfl (fun K hK => ?_) AllReadyH.nil
            rw [if_pos (by rfl)]
            refine wp_append_lies wb (.tmp 45) (.tmp 47) 35 rfl 0 29 ie0 _ 4 48 Tryd.underlying35 hie0 hze0 hze1 hze2 rfl (by decide) (.slice ao R.l.length c) R.l.length (flatE R.l) rfl HRB.out ⟨w5.heap.size, 0, none⟩ 1 1 (encE (⟨k, v, d, q⟩ : E)) rfl rfl HVN.out HON.out (by decide) H63.out H48.out (Nat.zero_le _) wb.heap.size rfl ?_
            intro b9 c9 w6 h6 hg6 hv6 hl6
            obtain ⟨v9, hv9⟩ : ∃ v9, v9 = Value.slice (some ⟨b9, 0, none⟩) (R.l.length + 1) c9 := ⟨_, rfl⟩
            have HM6 : Hid (w6.heap[g]? = some (.cells (memC (.slice ao R.l.length c) R.last R.ch) 44 (0, 0))) := (hg6.block g (heap_lt HMB.out) (fun e => (HKB.out g e.symm).2.1 rfl)).trans HMB.out
            have HBX6 : Hid (w6.heap[w.heap.size]? = some (.cells #[Value.string k, Value.string v, Value.bool d, Value.int IntKind.i64 q] 29)) := (hg6.block _ (heap_lt HBXB.out) (fun e => by have := (HKB.out _ e.symm).1; omega)).trans HBXB.out
            have c6 : w6.cell? ⟨g, 0, none⟩ = some (.slice ao R.l.length c) := (cell_of_row _ _ _ _ _ _ HM6.out).trans rfl
            have z6 : w6.frozen? ⟨g, 0, none⟩ = false := fz_of HM6.out 0
            have HNG : Hid (v9.ownBlock ≠ some g) := by
              show _ ≠ _
              rw [hv9]
              intro e
              have e3 : b9 = g := by simpa [Value.ownBlock] using e
              rcases hv6 with e2 | e2
              · exact (HKB.out b9 e2).2.1 e3
              · have := HSB.out; omega
            have HRO : Hid (∀ k, v9.ownBlock = some k → grow own w k) := fun kk hk => by
              rw [hv9] at hk
              have e3 : b9 = kk := by simpa [Value.ownBlock] using hk
              rcases hv6 with e2 | e2
              · exact .inl (by rw [← e3]; exact (HKB.out b9 e2).2.2)
              · exact .inr (by have := HSB.out; omega)
            have HO6 : Hid (Only own w w6) := HOB.out.grown hg6 (fun kk e => .inl (HKB.out kk e).2.2)
            have HR6 : Hid (w6.ownsRow 0 29 4 v9 (R.l ++ [(⟨k, v, d, q⟩ : E)]).length (flatE (R.l ++ [(⟨k, v, d, q⟩ : E)]))) := by
              show World.ownsRow _ _ _ _ _ _ _
              rw [List.length_append, flatE_append, hv9]
              simpa [flatE] using h6
            refine hK.out _ _ (four_cells HBX6.out) (fun hHeld2 => ?_)
            clear hK K h6 hg6 hv6
            try simp only [Act.put, List.getElem_toArray, List.getElem_cons_zero, List.getElem_cons_succ, List.setIfInBounds_toArray, List.set_cons_zero, List.set_cons_succ]
            refine wpAnyH_take (i := 8) (v := ?_) rfl (by kernel_rfl) (by kernel_rfl) (by kernel_rfl) (fun _ _ _ h => h) (Or.inl ⟨by rfl, ?_⟩) (by assumption) ?_
            rotate_left
            · (intro w hSw; (try dsimp only at hSw); go_simp; try with_reducible rfl)
            simp only [Act.put, List.getElem_toArray, List.getElem_cons_zero, List.getElem_cons_succ, List.setIfInBounds_toArray, List.set_cons_zero, List.set_cons_succ]
            refine wpAnyH_take (i := 9) (v := ?_) rfl (by kernel_rfl) (by kernel_rfl) (by kernel_rfl) (fun _ _ _ h => h) (Or.inl ⟨by rfl, ?_⟩) (by assumption) ?_
            rotate_left
            · (intro w hSw; (try dsimp only at hSw); go_simp; try with_reducible rfl)
            simp only [Act.put, List.getElem_toArray, List.getElem_cons_zero, List.getElem_cons_succ, List.setIfInBounds_toArray, List.set_cons_zero, List.set_cons_succ]
            refine wpAnyH_ready (rs := [10]) (by kernel_rfl) (by simp) ?_
            refine AllReadyH.cons rfl (fun K hK => ?_) AllReadyH.nil
            go_simp
            rw [← hv9]
            obtain ⟨wz, HZ⟩ : ∃ wz, Hid (w6.setCell ⟨g, 0, none⟩ v9 = wz) := ⟨_, rfl⟩
            rw [HZ.out]
            have HM9 : Hid (wz.heap[g]? = some (.cells (memC v9 R.last R.ch) 44 (0, 0))) := by show _ = _; rw [← HZ.out]; exact rf_set0 HM6.out
            have HBX : Hid (wz.heap[w.heap.size]? = some (.cells #[Value.string k, Value.string v, Value.bool d, Value.int IntKind.i64 q] 29)) := by show _ = _; rw [← HZ.out, heap_set_ne _ _ _ (by omega)]; exact HBX6.out
            have HROW : Hid (wz.ownsRow 0 29 4 v9 (R.l ++ [(⟨k, v, d, q⟩ : E)]).length (flatE (R.l ++ [(⟨k, v, d, q⟩ : E)]))) := by show World.ownsRow _ _ _ _ _ _ _; rw [← HZ.out]; exact row_block HR6.out (fun k hk => heap_set_ne _ _ _ (fun e => HNG.out (by rw [← e]; exact hk)))
            have HOX : Hid (Only own w wz) := by show Only _ _ _; rw [← HZ.out]; exact HO6.out.setCell (.inl HOG.out) _
            refine hK.out _ _ (four_cells HBX.out) (fun hHeld2 => ?_)
            clear hK K HZ HM6 HBX6 c6 z6 HO6 HR6 hv9 hl6 HKB HMB HRB HVN HON H63 H48 HBXB HOB HSB HWB hcb c0d hsz3 hx3 hS
            refine wpAnyH_done (by kernel_rfl) ?_ _
            have hbx := four_cells HBX.out
            obtain ⟨x0, x1, x2, x3⟩ := hbx
            have g1 : wz.cell? ⟨g, 1, none⟩ = some (.int .i64 R.last) := by rw [cell_of_row _ _ _ _ _ _ HM9.out]; rfl
            have z1 : wz.frozen? ⟨g, 1, none⟩ = false := fz_of HM9.out 1
            go_wp2_with fail
            obtain ⟨wy, HY⟩ : ∃ wy, Hid (wz.setCell ⟨g, 1, none⟩ (.int .i64 q) = wy) := ⟨_, rfl⟩
            rw [HY.out]
            have HMY : Hid (wy.heap[g]? = some (.cells (memC v9 q R.ch) 44 (0, 0))) := by show _ = _; rw [← HY.out]; exact rf_set1 HM9.out
            have HBY : Hid (wy.heap[w.heap.size]? = some (.cells #[Value.string k, Value.string v, Value.bool d, Value.int IntKind.i64 q] 29)) := by show _ = _; rw [← HY.out, heap_set_ne _ _ _ (by omega)]; exact HBX.out
            have HOY : Hid (Only own w wy) := by show Only _ _ _; rw [← HY.out]; exact HOX.out.setCell (.inl HOG.out) _
            have HRY : Hid (wy.ownsRow 0 29 4 v9 (R.l ++ [(⟨k, v, d, q⟩ : E)]).length (flatE (R.l ++ [(⟨k, v, d, q⟩ : E)]))) := by show World.ownsRow _ _ _ _ _ _ _; rw [← HY.out]; exact row_block HROW.out (fun k hk => heap_set_ne _ _ _ (fun e => HNG.out (by rw [← e]; exact hk)))
            clear HY x0 x1 x2 x3 g1 z1 HM9 HBX HOX HROW
            have hy0 := four_cells HBY.out
            refine wp_region_held_drew (S := fun w' => w'.cell? ⟨w.heap.size, 0, none⟩ = some (.string k) ∧ w'.cell? ⟨w.heap.size, 1, none⟩ = some (.string v) ∧ w'.cell? ⟨w.heap.size, 2, none⟩ = some (.bool d) ∧ w'.cell? ⟨w.heap.size, 3, none⟩ = some (.int .i64 q)) (by kernel_rfl) hy0 (fun hS => ?_)
            refine wpAnyH_take (i := 0) (v := ?_) rfl (by kernel_rfl) (by kernel_rfl) (by kernel_rfl) (fun _ _ _ h => h) (Or.inl ⟨by rfl, ?_⟩) (by assumption) ?_
            rotate_left
            · (intro w hSw; (try dsimp only at hSw); go_simp; try with_reducible rfl)
            simp only [Act.put, List.getElem_toArray, List.getElem_cons_zero, List.setIfInBounds_toArray, List.set_cons_zero, List.set_cons_succ]
            refine wpAnyH_take (i := 1) (v := ?_) rfl (by kernel_rfl) (by kernel_rfl) (by kernel_rfl) (fun _ _ _ h => h) (Or.inl ⟨by rfl, ?_⟩) (by assumption) ?_
            rotate_left
            · (intro w hSw; (try dsimp only at hSw); go_simp; try with_reducible rfl)
            simp only [Act.put, List.getElem_toArray, List.getElem_cons_zero, List.getElem_cons_succ, List.setIfInBounds_toArray, List.set_cons_zero, List.set_cons_succ]
            refine wpAnyH_take (i := 2) (v := ?_) rfl (by kernel_rfl) (by kernel_rfl) (by kernel_rfl) (fun _ _ _ h => h) (Or.inl ⟨by rfl, ?_⟩) (by assumption) ?_
            rotate_left
            · (intro w hSw; (try dsimp only at hSw); go_simp; try with_reducible rfl)
            simp only [Act.put, List.getElem_toArray, List.getElem_cons_zero, List.getElem_cons_succ, List.setIfInBounds_toArray, List.set_cons_zero, List.set_cons_succ]
            refine wpAnyH_take (i := 3) (v := ?_) rfl (by kernel_rfl) (by kernel_rfl) (by kernel_rfl) (fun _ _ _ h => h) (Or.inl ⟨by rfl, ?_⟩) (by assumption) ?_
            rotate_left
            · (intro w hSw; (try dsimp only at hSw); go_simp; try with_reducible rfl)
            simp only [Act.put, List.getElem_toArray, List.getElem_cons_zero, List.getElem_cons_succ, List.setIfInBounds_toArray, List.set_cons_zero, List.set_cons_succ]
            refine wpAnyH_take (i := 5) (v := ?_) rfl (by kernel_rfl) (by kernel_rfl) (by kernel_rfl) (fun _ _ _ h => h) (Or.inl ⟨by rfl, ?_⟩) (by assumption) ?_
            rotate_left
            · (intro w hSw; (try dsimp only at hSw); go_simp; try with_reducible rfl)
            simp only [Act.put, List.getElem_toArray, List.getElem_cons_zero, List.getElem_cons_succ, List.setIfInBounds_toArray, List.set_cons_zero, List.set_cons_succ]
            refine wpAnyH_ready (rs := [4]) (by kernel_rfl) (by simp) ?_
            refine AllReadyH.cons rfl (fun K hK => ?_) AllReadyH.nil
            rw [if_pos (by rfl)]
            refine wp_load_mid 42 (.tmp 59) rfl g 2 rfl (cellsOf R.ch) _ (rf_range HMY.out) Tryd.underlying42 rfl (by rw [size42, cellsOf_length, HCL.out]) ?_
            refine hK.out _ _ hy0 (fun hHeld2 => ?_)
            clear hK K
            simp only [Act.put, List.getElem_toArray, List.getElem_cons_zero, List.getElem_cons_succ, List.setIfInBounds_toArray, List.set_cons_zero, List.set_cons_succ]
            refine wpAnyH_ready (rs := [6]) (by kernel_rfl) (by simp) ?_
            refine AllReadyH.cons rfl (fun K hK => ?_) AllReadyH.nil
            go_simp
            refine (link_any R.ch k v d q wy.drew HCL.out hk hv).mono ?_
            rintro e wv ⟨rfl, hbv⟩
            go_wp2_with fail
            have hev : wv.heap[w.heap.size]? = some (.cells #[Value.string k, Value.string v, Value.bool d, Value.int IntKind.i64 q] 29) := (hbv.block _ (heap_lt HBY.out)).trans HBY.out
            have HMV : Hid (wv.heap[g]? = some (.cells (memC v9 q R.ch) 44 (0, 0))) := (hbv.block _ (heap_lt HMY.out)).trans HMY.out
            have HOV : Hid (Only own w wv) := (HOY.out.drewN 1).trans (Only.of_below (own := own) hbv) (fun _ e => .inl e)
            have HRV : Hid (wv.ownsRow 0 29 4 v9 (R.l ++ [(⟨k, v, d, q⟩ : E)]).length (flatE (R.l ++ [(⟨k, v, d, q⟩ : E)]))) := row_block HRY.out (fun k hk => hbv.block k (HRY.out.lt k hk).2)
            refine hK.out _ _ (four_cells hev) (fun hHeld2 => ?_)
            clear hK K hbv HOY HRY HMY HBY hy0
            obtain ⟨D, HD⟩ : ∃ D, Hid (D = (cellsOf (linkB R.ch ⟨k, v, d, q⟩)).toArray) := ⟨_, rfl⟩
            have hDs : D.size = 32 := by rw [HD.out, List.size_toArray, cellsOf_length, linkB_len]
            have hD1 : D.all (·.oneCell') = true := by rw [HD.out]; exact dig_one _
            have HTH : Hid (wv.there g 2 D.size) := by show World.there _ _ _ _; rw [hDs]; exact rf_there HMV.out HCL.out
            rw [← HD.out]
            refine wpAnyH_take (i := 7) (v := ?_) rfl (by kernel_rfl) (by kernel_rfl) (by kernel_rfl) (fun _ _ _ h => h) (Or.inl ⟨by rfl, ?_⟩) (by assumption) ?_
            rotate_left
            · (intro w hSw; (try dsimp only at hSw); go_simp; try with_reducible rfl)
            simp only [Act.put, List.getElem_toArray, List.getElem_cons_zero, List.getElem_cons_succ, List.setIfInBounds_toArray, List.set_cons_zero, List.set_cons_succ]
            refine wpAnyH_take (i := 8) (v := ?_) rfl (by kernel_rfl) (by kernel_rfl) (by kernel_rfl) (fun _ _ _ h => h) (Or.inl ⟨by rfl, ?_⟩) (by assumption) ?_
            rotate_left
            · (intro w hSw; (try dsimp only at hSw); go_simp; try with_reducible rfl)
            simp only [Act.put, List.getElem_toArray, List.getElem_cons_zero, List.getElem_cons_succ, List.setIfInBounds_toArray, List.set_cons_zero, List.set_cons_succ]
            refine wpAnyH_ready (rs := [9]) (by kernel_rfl) (by simp) ?_
            refine AllReadyH.cons rfl (fun K hK => ?_) AllReadyH.nil
            rw [if_pos (by rfl)]
            refine wp_store_mid 42 (.tmp 64) (.tmp 62) rfl g 2 D rfl rfl HTH.out (by rw [size42, hDs]) hD1 ?_
            rw [HD.out, rf_chain HMV.out HCL.out (linkB_len _ _)]
            refine hK.out _ _ (four_cells ((setRow_other wv g w.heap.size _ (by omega)).trans hev)) (fun hHeld2 => ?_)
            clear hK K
            refine wpAnyH_done (by kernel_rfl) ?_ _
            clear hDs hD1 HTH hev HD
            go_wp2_with fail
            go_ret
            rw [HQ9.out]
            refine ⟨by rw [hn9]; rfl, ⟨HWF.out, v9, .inl HOG.out, ?_, row_block HRV.out (fun k hk => setRow_other wv g k _ (fun e => HNG.out (by rw [← e]; exact hk))), HRO.out⟩, HOV.out.setRow (.inl HOG.out) _⟩
            exact setRow_heap _ _ _ _ _ _ HMV.out
end Go.Proofs.YtaamekkbgaeafaaDoor
