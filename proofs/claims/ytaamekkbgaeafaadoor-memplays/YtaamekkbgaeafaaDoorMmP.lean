/-
  Put of a mem: the walk.
-/
import Derived.Test.YtaamekkbgaeafaaDoorMmE
import Derived.Deep.RegionHeld3
namespace Go.Proofs.YtaamekkbgaeafaaDoor
open Go.RowKit
set_option linter.unusedSectionVars false
variable [Inhabited E] [DecidableEq E]
theorem four_cells {w : World} {g : Nat} {a b c d : Value} {t : TypeId} {fr : Nat × Nat} (h : w.heap[g]? = some (.cells #[a, b, c, d] t fr)) :
    w.cell? ⟨g, 0, none⟩ = some a ∧ w.cell? ⟨g, 1, none⟩ = some b ∧ w.cell? ⟨g, 2, none⟩ = some c ∧ w.cell? ⟨g, 3, none⟩ = some d :=
  ⟨(cell_of_row _ _ _ _ _ _ h).trans rfl, (cell_of_row _ _ _ _ _ _ h).trans rfl, (cell_of_row _ _ _ _ _ _ h).trans rfl, (cell_of_row _ _ _ _ _ _ h).trans rfl⟩
theorem setCells_ne (b : Nat) : ∀ (vs : List Value) (o : Nat) (w : World) (k : Nat), k ≠ b → (w.setCells b o vs).heap[k]? = w.heap[k]?
  | [], _, _, _, _ => rfl
  | u :: r, o, w, k, h => by rw [World.setCells, setCells_ne b r (o + 1) _ k h, heap_set_ne _ _ _ h]
theorem own_setE {w : World} {base g n cap : Nat} {L : List E} (h : w.ownsRow base 29 4 (.slice (some ⟨g, 0, none⟩) n cap) n (flatE L)) (i : Nat) (hi : i < n) (x : E) :
    (w.setCells g (i * 4) (encE x)).ownsRow base 29 4 (.slice (some ⟨g, 0, none⟩) n cap) n (flatE (L.set i x)) := own_set h i hi x.key x.value x.del x.seq
theorem Only.setCells {own : Nat → Prop} {a : World} {g : Nat} (hp : grow own a g) : ∀ (vs : List Value) (o : Nat) {bb : World}, Only own a bb → Only own a (bb.setCells g o vs)
  | [], _, _, h => h
  | u :: r, o, _, h => Only.setCells hp r (o + 1) (h.setCell (p := ⟨g, o, none⟩) hp u)
theorem mem_range {w : World} {g : Nat} {v : Value} {l : Int} {ch : List UInt8} (h : w.heap[g]? = some (.cells (memC v l ch) 57 (0, 0))) : w.rangeAt g 2 (cellsOf ch) := fun j u hu => by
  rw [cell_of_row _ _ _ _ _ _ h, memC, Nat.add_comm 2 j]
  simpa using hu
set_option maxRecDepth 100000 in
set_option maxHeartbeats 4000000 in
theorem put_mem (own : Nat → Prop) (g : Nat) (A : Mm) (k v : ByteArray) (d : Bool) (q : Int) (w : World) (h : MemAt own w g A) (hKK : KK w) (h1 : ¬ own 1) (hk : k.size ≤ 9223372036854775807) (hv : v.size ≤ 9223372036854775807) :
    Calls Tryd.prog 13 #[.pointer (some ⟨g, 0, none⟩), .agg #[Value.string k, Value.string v, Value.bool d, Value.int IntKind.i64 q]] w fun e w' => e = .returned (.int .i64 (putN A ⟨k, v, d, q⟩)) ∧ MemAt (grow own w) w' g (putA A ⟨k, v, d, q⟩) ∧ Only own w w' := by
  obtain ⟨n9, HN⟩ : ∃ n9, Hid (putN A ⟨k, v, d, q⟩ = n9) := ⟨_, rfl⟩
  obtain ⟨A9, HA⟩ : ∃ A9, Hid (putA A ⟨k, v, d, q⟩ = A9) := ⟨_, rfl⟩
  have HWF := putA_wf h.1 ⟨k, v, d, q⟩
  rw [HA.out] at HWF
  rw [HN.out, HA.out]
  obtain ⟨W, hW⟩ : ∃ W, W = w.alloc (.cells #[Value.string k, Value.string v, Value.bool d, Value.int IntKind.i64 q] 29) := ⟨_, rfl⟩
  have hbW : Below w.heap.size w W := by rw [hW]; exact bel_alloc w _
  have hWe : W.heap[w.heap.size]? = some (.cells #[Value.string k, Value.string v, Value.bool d, Value.int IntKind.i64 q] 29) := by rw [hW]; exact heap_alloc_new w _
  have hWs : W.heap.size = w.heap.size + 1 := by rw [hW]; simp
  have hMW : MemAt own W g A := h.grown hbW
  have hgl := h.lt
  have hc1 : W.cell? ⟨g, 1, none⟩ = some (.int .i64 A.last) := by obtain ⟨wf, vv, hM⟩ := hMW; exact hM.c1
  obtain ⟨e0, e1, e2, e3⟩ := four_cells hWe
  obtain ⟨r0, HR0⟩ : ∃ r0, Hid (rightB ⟨k, v, d, q⟩ = r0) := ⟨_, rfl⟩
  have hrc := right_any k v d q W.drew hk hv
  rw [HR0.out] at hrc
  have HRC : Hid (Calls Tryd.prog 26 #[.agg #[Value.string k, Value.string v, Value.bool d, Value.int IntKind.i64 q]] W.drew fun r w' => r = .returned (.bool r0) ∧ Below W.heap.size W.drew w') := hrc
  clear hrc
  have HMW : Hid (MemAt own W g A) := hMW
  have HWE : Hid (W.heap[w.heap.size]? = some (.cells #[Value.string k, Value.string v, Value.bool d, Value.int IntKind.i64 q] 29)) := hWe
  have HBW : Hid (Below w.heap.size w W) := hbW
  have HH : Hid (MemAt own w g A) := h
  clear hMW hWe hbW h
  obtain ⟨la, hla⟩ : ∃ la, la = A.last := ⟨_, rfl⟩
  rw [← hla] at hc1
  go_enter Tryd.func13, Tryd.ntmps13
  go_wp2_with fail
  rw [← hW]
  have HW0 : Hid (W = w.alloc (.cells #[Value.string k, Value.string v, Value.bool d, Value.int IntKind.i64 q] 29)) := hW
  clear hW
  have HSE : Hid (∀ W', Below W.heap.size W W' → (fun w' => w'.cell? ⟨w.heap.size, 0, none⟩ = some (.string k) ∧ w'.cell? ⟨w.heap.size, 1, none⟩ = some (.string v) ∧ w'.cell? ⟨w.heap.size, 2, none⟩ = some (.bool d) ∧ w'.cell? ⟨w.heap.size, 3, none⟩ = some (.int .i64 q) ∧ w'.cell? ⟨g, 1, none⟩ = some (.int .i64 la)) W') := fun W' hb => ⟨bel_cell hb (Nat.le_refl _) e0, bel_cell hb (Nat.le_refl _) e1, bel_cell hb (Nat.le_refl _) e2, bel_cell hb (Nat.le_refl _) e3, bel_cell hb (Nat.le_refl _) hc1⟩
  have HLA : Hid (la = A.last) := hla
  clear hla hc1 e0 e1 e2 e3
  refine wp_region_held_drew (S := fun w' => w'.cell? ⟨w.heap.size, 0, none⟩ = some (.string k) ∧ w'.cell? ⟨w.heap.size, 1, none⟩ = some (.string v) ∧ w'.cell? ⟨w.heap.size, 2, none⟩ = some (.bool d) ∧ w'.cell? ⟨w.heap.size, 3, none⟩ = some (.int .i64 q) ∧ w'.cell? ⟨g, 1, none⟩ = some (.int .i64 la)) (by kernel_rfl) (HSE.out _ (Below.drew (Below.refl _ _))) (fun hS => ?_)
  refine wpAnyH_take (i := 0) (v := ?_) rfl (by kernel_rfl) (by kernel_rfl) (by kernel_rfl) (fun _ _ _ h => h) (Or.inl ⟨by rfl, ?_⟩) (by assumption) ?_
  rotate_left
  · (intro w hSw; (try dsimp only at hSw); go_simp; try with_reducible rfl)
  simp only [Act.put, List.getElem_toArray, List.getElem_cons_zero, List.setIfInBounds_toArray, List.set_cons_zero, List.set_cons_succ]
  refine wpAnyH_ready (rs := [1]) (by kernel_rfl) (by simp) ?_
  refine AllReadyH.cons rfl (fun K hK => ?_) AllReadyH.nil
  go_simp
  refine Calls.mono HRC.out ?_
  rintro e w2 ⟨rfl, hb2⟩
  have hb3 : Below W.heap.size W w2 := (Below.drew (Below.refl _ _)).trans hb2
  go_wp2_with fail
  refine hK.out _ _ (HSE.out _ hb3) (fun hHeld2 => ?_)
  clear hK K hb2 HRC
  have hbw2 : Below w.heap.size w w2 := HBW.out.trans (hb3.mono (by omega))
  cases r0 with
  | false =>
    have hn9 : n9 = 1 := by rw [← HN.out, putN, if_pos (.inl HR0.out)]
    have hA9 : A9 = A := by rw [← HA.out, putA, HN.out, hn9]; rfl
    clear HN HA HR0
    refine wpAnyH_take (i := 2) (v := ?_) rfl (by kernel_rfl) (by kernel_rfl) (by kernel_rfl) (fun _ _ _ h => h) (Or.inl ⟨by rfl, ?_⟩) (by assumption) ?_
    rotate_left
    · (intro w hSw; (try dsimp only at hSw); go_simp; try with_reducible rfl)
    simp only [Act.put, List.getElem_toArray, List.getElem_cons_zero, List.getElem_cons_succ, List.setIfInBounds_toArray, List.set_cons_zero, List.set_cons_succ]
    refine wpAnyH_take (i := 3) (v := ?_) rfl (by kernel_rfl) (by kernel_rfl) (by kernel_rfl) (fun _ _ _ h => h) (Or.inl ⟨by rfl, ?_⟩) (by assumption) ?_
    rotate_left
    · (intro w hSw; (try dsimp only at hSw); go_simp; try with_reducible rfl)
    simp only [Act.put, List.getElem_toArray, List.getElem_cons_zero, List.getElem_cons_succ, List.setIfInBounds_toArray, List.set_cons_zero, List.set_cons_succ]
    refine wpAnyH_take (i := 4) (v := undef) rfl (by kernel_rfl) (by kernel_rfl) (by kernel_rfl) (fun _ _ _ h => h) (Or.inr ⟨by rfl, rfl⟩) (by assumption) ?_
    simp only [Act.put, List.getElem_toArray, List.getElem_cons_zero, List.getElem_cons_succ, List.setIfInBounds_toArray, List.set_cons_zero, List.set_cons_succ]
    refine wpAnyH_take (i := 5) (v := undef) rfl (by kernel_rfl) (by kernel_rfl) (by kernel_rfl) (fun _ _ _ h => h) (Or.inr ⟨by rfl, rfl⟩) (by assumption) ?_
    simp only [Act.put, List.getElem_toArray, List.getElem_cons_zero, List.getElem_cons_succ, List.setIfInBounds_toArray, List.set_cons_zero, List.set_cons_succ]
    refine wpAnyH_take (i := 6) (v := undef) rfl (by kernel_rfl) (by kernel_rfl) (by kernel_rfl) (fun _ _ _ h => h) (Or.inr ⟨by rfl, rfl⟩) (by assumption) ?_
    simp only [Act.put, List.getElem_toArray, List.getElem_cons_zero, List.getElem_cons_succ, List.setIfInBounds_toArray, List.set_cons_zero, List.set_cons_succ]
    refine wpAnyH_take (i := 7) (v := undef) rfl (by kernel_rfl) (by kernel_rfl) (by kernel_rfl) (fun _ _ _ h => h) (Or.inr ⟨by rfl, rfl⟩) (by assumption) ?_
    simp only [Act.put, List.getElem_toArray, List.getElem_cons_zero, List.getElem_cons_succ, List.setIfInBounds_toArray, List.set_cons_zero, List.set_cons_succ]
    refine wpAnyH_take (i := 8) (v := undef) rfl (by kernel_rfl) (by kernel_rfl) (by kernel_rfl) (fun _ _ _ h => h) (Or.inr ⟨by rfl, rfl⟩) (by assumption) ?_
    simp only [Act.put, List.getElem_toArray, List.getElem_cons_zero, List.getElem_cons_succ, List.setIfInBounds_toArray, List.set_cons_zero, List.set_cons_succ]
    refine wpAnyH_take (i := 9) (v := undef) rfl (by kernel_rfl) (by kernel_rfl) (by kernel_rfl) (fun _ _ _ h => h) (Or.inr ⟨by rfl, rfl⟩) (by assumption) ?_
    simp only [Act.put, List.getElem_toArray, List.getElem_cons_zero, List.getElem_cons_succ, List.setIfInBounds_toArray, List.set_cons_zero, List.set_cons_succ]
    refine wpAnyH_take (i := 10) (v := undef) rfl (by kernel_rfl) (by kernel_rfl) (by kernel_rfl) (fun _ _ _ h => h) (Or.inr ⟨by rfl, rfl⟩) (by assumption) ?_
    simp only [Act.put, List.getElem_toArray, List.getElem_cons_zero, List.getElem_cons_succ, List.setIfInBounds_toArray, List.set_cons_zero, List.set_cons_succ]
    refine wpAnyH_take (i := 11) (v := ?_) rfl (by kernel_rfl) (by kernel_rfl) (by kernel_rfl) (fun _ _ _ h => h) (Or.inl ⟨by rfl, ?_⟩) (by assumption) ?_
    rotate_left
    · (intro w hSw; (try dsimp only at hSw); go_simp; try with_reducible rfl)
    simp only [Act.put, List.getElem_toArray, List.getElem_cons_zero, List.getElem_cons_succ, List.setIfInBounds_toArray, List.set_cons_zero, List.set_cons_succ]
    refine wpAnyH_done (by kernel_rfl) ?_ _
    go_wp2_with fail
    go_ret
    refine ⟨by rw [hn9]; rfl, ?_, Only.of_below hbw2⟩
    rw [hA9]
    exact (HH.out.grown hbw2).mono (fun k hk e => .inl e)
  | true =>
    refine wpAnyH_take (i := 2) (v := ?_) rfl (by kernel_rfl) (by kernel_rfl) (by kernel_rfl) (fun _ _ _ h => h) (Or.inl ⟨by rfl, ?_⟩) (by assumption) ?_
    rotate_left
    · (intro w hSw; (try dsimp only at hSw); go_simp; try with_reducible rfl)
    simp only [Act.put, List.getElem_toArray, List.getElem_cons_zero, List.getElem_cons_succ, List.setIfInBounds_toArray, List.set_cons_zero, List.set_cons_succ]
    refine wpAnyH_take (i := 3) (v := ?_) rfl (by kernel_rfl) (by kernel_rfl) (by kernel_rfl) (fun _ _ _ h => h) (Or.inl ⟨by rfl, ?_⟩) (by assumption) ?_
    rotate_left
    · (intro w hSw; (try dsimp only at hSw); go_simp; try with_reducible rfl)
    simp only [Act.put, List.getElem_toArray, List.getElem_cons_zero, List.getElem_cons_succ, List.setIfInBounds_toArray, List.set_cons_zero, List.set_cons_succ]
    refine wpAnyH_take (i := 4) (v := ?_) rfl (by kernel_rfl) (by kernel_rfl) (by kernel_rfl) (fun _ _ _ h => h) (Or.inl ⟨by rfl, ?_⟩) (by assumption) ?_
    rotate_left
    · (intro w hSw; (try dsimp only at hSw); go_simp; try with_reducible rfl)
    simp only [Act.put, List.getElem_toArray, List.getElem_cons_zero, List.getElem_cons_succ, List.setIfInBounds_toArray, List.set_cons_zero, List.set_cons_succ]
    refine wpAnyH_take (i := 5) (v := ?_) rfl (by kernel_rfl) (by kernel_rfl) (by kernel_rfl) (fun _ _ _ h => h) (Or.inl ⟨by rfl, ?_⟩) (by assumption) ?_
    rotate_left
    · (intro w hSw; (try dsimp only at hSw); go_simp; try with_reducible rfl)
    simp only [Act.put, List.getElem_toArray, List.getElem_cons_zero, List.getElem_cons_succ, List.setIfInBounds_toArray, List.set_cons_zero, List.set_cons_succ]
    refine wpAnyH_take (i := 6) (v := ?_) rfl (by kernel_rfl) (by kernel_rfl) (by kernel_rfl) (fun _ _ _ h => h) (Or.inl ⟨by rfl, ?_⟩) (by assumption) ?_
    rotate_left
    · (intro w hSw; (try dsimp only at hSw); go_simp; try with_reducible rfl)
    simp only [Act.put, List.getElem_toArray, List.getElem_cons_zero, List.getElem_cons_succ, List.setIfInBounds_toArray, List.set_cons_zero, List.set_cons_succ]
    refine wpAnyH_take (i := 7) (v := ?_) rfl (by kernel_rfl) (by kernel_rfl) (by kernel_rfl) (fun _ _ _ h => h) (Or.inl ⟨by rfl, ?_⟩) (by assumption) ?_
    rotate_left
    · (intro w hSw; (try dsimp only at hSw); go_simp; try with_reducible rfl)
    simp only [Act.put, List.getElem_toArray, List.getElem_cons_zero, List.getElem_cons_succ, List.setIfInBounds_toArray, List.set_cons_zero, List.set_cons_succ]
    refine wpAnyH_take (i := 8) (v := ?_) rfl (by kernel_rfl) (by kernel_rfl) (by kernel_rfl) (fun _ _ _ h => h) (Or.inl ⟨by rfl, ?_⟩) (by assumption) ?_
    rotate_left
    · (intro w hSw; (try dsimp only at hSw); go_simp; try with_reducible rfl)
    simp only [Act.put, List.getElem_toArray, List.getElem_cons_zero, List.getElem_cons_succ, List.setIfInBounds_toArray, List.set_cons_zero, List.set_cons_succ]
    refine wpAnyH_take (i := 9) (v := ?_) rfl (by kernel_rfl) (by kernel_rfl) (by kernel_rfl) (fun _ _ _ h => h) (Or.inl ⟨by rfl, ?_⟩) (by assumption) ?_
    rotate_left
    · (intro w hSw; (try dsimp only at hSw); go_simp; try with_reducible rfl)
    simp only [Act.put, List.getElem_toArray, List.getElem_cons_zero, List.getElem_cons_succ, List.setIfInBounds_toArray, List.set_cons_zero, List.set_cons_succ]
    refine wpAnyH_take (i := 10) (v := ?_) rfl (by kernel_rfl) (by kernel_rfl) (by kernel_rfl) (fun _ _ _ h => h) (Or.inl ⟨by rfl, ?_⟩) (by assumption) ?_
    rotate_left
    · (intro w hSw; (try dsimp only at hSw); go_simp; try with_reducible rfl)
    simp only [Act.put, List.getElem_toArray, List.getElem_cons_zero, List.getElem_cons_succ, List.setIfInBounds_toArray, List.set_cons_zero, List.set_cons_succ]
    refine wpAnyH_take (i := 11) (v := ?_) rfl (by kernel_rfl) (by kernel_rfl) (by kernel_rfl) (fun _ _ _ h => h) (Or.inl ⟨by rfl, ?_⟩) (by assumption) ?_
    rotate_left
    · (intro w hSw; (try dsimp only at hSw); go_simp; try with_reducible rfl)
    simp only [Act.put, List.getElem_toArray, List.getElem_cons_zero, List.getElem_cons_succ, List.setIfInBounds_toArray, List.set_cons_zero, List.set_cons_succ]
    refine wpAnyH_done (by kernel_rfl) ?_ _
    by_cases hq : q ≤ la
    · have hn9 : n9 = 1 := by rw [← HN.out, putN, if_pos (.inr (by rw [← HLA.out]; exact hq))]
      have hA9 : A9 = A := by rw [← HA.out, putA, HN.out, hn9]; rfl
      clear HN HA HR0
      go_wp2_with fail
      go_ret
      refine ⟨by rw [hn9]; rfl, ?_, Only.of_below hbw2⟩
      rw [hA9]
      exact (HH.out.grown hbw2).mono (fun k hk e => .inl e)
    · have HQ : Hid (la < q) := by show _ < _; omega
      have HM2 : Hid (MemAt own w2 g A) := HMW.out.grown hb3
      have HBX2 : Hid (w2.heap[w.heap.size]? = some (.cells #[Value.string k, Value.string v, Value.bool d, Value.int IntKind.i64 q] 29)) := (hb3.block _ (by omega)).trans HWE.out
      obtain ⟨x0, -, -, -⟩ := four_cells HBX2.out
      obtain ⟨r, HR⟩ : ∃ r, Hid (belowN k A.es = r) := ⟨_, rfl⟩
      obtain ⟨qi, HQI⟩ : ∃ qi, Hid (isIn k A.es = qi) := ⟨_, rfl⟩
      have dq : decide (q ≤ la) = false := by simpa using hq
      have hfd := find_mem own g A k w2 HM2.out
      rw [HR.out, HQI.out] at hfd
      clear HMW HWE HW0 HBW HSE hb3 hHeld2 hWs hS
      have hln : A.es.length ≤ 64 := HH.out.1.len
      have HCL : Hid (A.ch.length = 32) := HH.out.1.chl
      have HKW : Hid (KK w) := hKK
      have HKY : ∀ wy, Only own w wy → KK wy.drew := fun wy ho => HKW.out.only (ho.drewN 1) h1
      have HOG : Hid (own g) := by obtain ⟨wf, vv, hM⟩ := HH.out; exact hM.og
      have hwf := HH.out.1
      have hneg : ¬ (rightB ⟨k, v, d, q⟩ = false ∨ q ≤ A.last) := by rw [HR0.out, ← HLA.out]; simp; omega
      have hks := ks_isIn k hwf.ks
      rw [HR.out, HQI.out] at hks
      have HIF : Hid (insS A.es ⟨k, v, d, q⟩ = if qi then A.es.set r ⟨k, v, d, q⟩ else insL r ⟨k, v, d, q⟩ A.es) := by
        show _ = _
        rw [ins_form hwf (by rw [← HLA.out]; exact HQ.out)]
        show (if isIn k A.es = true then _ else _) = _
        rw [HQI.out, HR.out]
      have HRL : Hid (r ≤ A.es.length) := by show _ ≤ _; rw [← HR.out]; exact belowN_le _ _
      clear hKK h1 hwf HR
      cases qi with
      | true =>
        have hrl : r < A.es.length := by
          by_cases hl : r < A.es.length
          · exact hl
          · rw [decide_eq_false hl] at hks; cases hks
        have hn9 : n9 = 0 := by rw [← HN.out, putN, if_neg hneg, if_neg (by show ¬ (isIn k A.es = false ∧ _); rw [HQI.out]; simp)]
        have hA9 : A9 = ⟨A.es.set r ⟨k, v, d, q⟩, q, linkB A.ch ⟨k, v, d, q⟩⟩ := by rw [← HA.out, putA, HN.out, hn9, if_pos rfl, HIF.out]; rfl
        have hA9l : A9.last = q := by rw [hA9]
        have hA9c : A9.ch = linkB A.ch ⟨k, v, d, q⟩ := by rw [hA9]
        have HE9 : Hid (A9.es = A.es.set r ⟨k, v, d, q⟩) := by show _ = _; rw [hA9]
        clear hks hneg HN HA HIF hA9
        go_wp2_with (go_at_call 31; refine hfd.mono ?_; rintro e w3 ⟨rfl, hb4⟩)
        have hbw3 : Below w.heap.size w w3 := hbw2.trans (hb4.mono hbw2.size)
        have HM3 : Hid (MemAt own w3 g A) := HM2.out.grown hb4
        have HBX3 : Hid (w3.heap[w.heap.size]? = some (.cells #[Value.string k, Value.string v, Value.bool d, Value.int IntKind.i64 q] 29)) := (hb4.block _ (heap_lt HBX2.out)).trans HBX2.out
        obtain ⟨wf, v8, hM⟩ := HM3.out
        rcases hM.row.2 with ⟨-, h0⟩ | ⟨b, c, cur, rfl, hB, hgg, hnc, hm, hcs, ht⟩
        · omega
        obtain ⟨v9, hv9⟩ : ∃ v9, v9 = Value.slice (some ⟨b, 0, none⟩) A.es.length c := ⟨_, rfl⟩
        have hbg : b ≠ g := ne_kind hgg hM.cells (by decide)
        have hblt : b < w.heap.size := by
          obtain ⟨_, v7, h7⟩ := HH.out
          have h8 := bel_cell hbw3 (Nat.le_refl _) h7.c0
          rw [hM.c0] at h8
          cases h8
          exact (h7.row.lt b rfl).2
        have hbo := hM.rown b rfl
        have hc0 := hM.c0
        have hx3 := four_cells HBX3.out
        have hlz : (r : Int) < (A.es.length : Int) := by omega
        refine wp_region_held_drew (S := fun w' => (w'.cell? ⟨w.heap.size, 0, none⟩ = some (.string k) ∧ w'.cell? ⟨w.heap.size, 1, none⟩ = some (.string v) ∧ w'.cell? ⟨w.heap.size, 2, none⟩ = some (.bool d) ∧ w'.cell? ⟨w.heap.size, 3, none⟩ = some (.int .i64 q)) ∧ w'.cell? ⟨g, 0, none⟩ = some (.slice (some ⟨b, 0, none⟩) A.es.length c)) (by kernel_rfl) ⟨hx3, hc0⟩ (fun hS => ?_)
        refine wpAnyH_take (i := 0) (v := ?_) rfl (by kernel_rfl) (by kernel_rfl) (by kernel_rfl) (fun _ _ _ h => h) (Or.inl ⟨by rfl, ?_⟩) (by assumption) ?_
        rotate_left
        · (intro w hSw; (try dsimp only at hSw); go_simp; try with_reducible rfl)
        simp only [Act.put, List.getElem_toArray, List.getElem_cons_zero, List.setIfInBounds_toArray, List.set_cons_zero, List.set_cons_succ]
        refine wpAnyH_take (i := 1) (v := ?_) rfl (by kernel_rfl) (by kernel_rfl) (by kernel_rfl) (fun _ _ _ h => h) (Or.inl ⟨by rfl, ?_⟩) (by assumption) ?_
        rotate_left
        · (intro w hSw; (try dsimp only at hSw); go_simp; try with_reducible rfl)
        simp only [Act.put, List.getElem_toArray, List.getElem_cons_zero, List.getElem_cons_succ, List.setIfInBounds_toArray, List.set_cons_zero, List.set_cons_succ]
        refine wpAnyH_take (i := 2) (v := ?_) rfl (by kernel_rfl) (by kernel_rfl) (by kernel_rfl) (fun _ _ _ h => h) (Or.inl ⟨by rfl, ?_⟩) (by assumption) ?_
        rotate_left
        · (intro w hSw; (try dsimp only at hSw); go_simp; try with_reducible rfl)
        simp only [Act.put, List.getElem_toArray, List.getElem_cons_zero, List.getElem_cons_succ, List.setIfInBounds_toArray, List.set_cons_zero, List.set_cons_succ]
        refine wpAnyH_take (i := 3) (v := ?_) rfl (by kernel_rfl) (by kernel_rfl) (by kernel_rfl) (fun _ _ _ h => h) (Or.inl ⟨by rfl, ?_⟩) (by assumption) ?_
        rotate_left
        · (intro w hSw; (try dsimp only at hSw); go_simp; try with_reducible rfl)
        simp only [Act.put, List.getElem_toArray, List.getElem_cons_zero, List.getElem_cons_succ, List.setIfInBounds_toArray, List.set_cons_zero, List.set_cons_succ]
        refine wpAnyH_take (i := 4) (v := ?_) rfl (by kernel_rfl) (by kernel_rfl) (by kernel_rfl) (fun _ _ _ h => h) (Or.inl ⟨by rfl, ?_⟩) (by assumption) ?_
        rotate_left
        · (intro w hSw; (try dsimp only at hSw); go_simp; try with_reducible rfl)
        simp only [Act.put, List.getElem_toArray, List.getElem_cons_zero, List.getElem_cons_succ, List.setIfInBounds_toArray, List.set_cons_zero, List.set_cons_succ]
        refine wpAnyH_take (i := 5) (v := ?_) rfl (by kernel_rfl) (by kernel_rfl) (by kernel_rfl) (fun _ _ _ h => h) (Or.inl ⟨by rfl, ?_⟩) (by assumption) ?_
        rotate_left
        · (intro w hSw; (try dsimp only at hSw); go_simp; try with_reducible rfl)
        simp only [Act.put, List.getElem_toArray, List.getElem_cons_zero, List.getElem_cons_succ, List.setIfInBounds_toArray, List.set_cons_zero, List.set_cons_succ]
        refine wpAnyH_take (i := 6) (v := ?_) rfl (by kernel_rfl) (by kernel_rfl) (by kernel_rfl) (fun _ _ _ h => h) (Or.inl ⟨by rfl, ?_⟩) (by assumption) ?_
        rotate_left
        · (intro w hSw; (try dsimp only at hSw); go_simp; try with_reducible rfl)
        simp only [Act.put, List.getElem_toArray, List.getElem_cons_zero, List.getElem_cons_succ, List.setIfInBounds_toArray, List.set_cons_zero, List.set_cons_succ]
        refine wpAnyH_ready (rs := [7]) (by kernel_rfl) (by simp) ?_
        refine AllReadyH.cons rfl (fun K hK => ?_) AllReadyH.nil
        rw [if_pos (by rfl)]
        have HTB : Hid (w3.drew.there b (r * 4) (#[Value.string k, Value.string v, Value.bool d, Value.int IntKind.i64 q] : Array Value).size) := fun j hj => by
          refine ⟨?_, fz_of (w := w3.drew) hgg _⟩
          rw [cell_of_row w3.drew _ _ _ _ _ hgg]
          have hj4 : j < 4 := hj
          simp [hcs]; omega
        refine wp_store_mid 29 (.tmp 45) (.tmp 44) rfl b (r * 4) #[Value.string k, Value.string v, Value.bool d, Value.int IntKind.i64 q] rfl rfl HTB.out size23 (by simp [Value.oneCell']) ?_
        obtain ⟨wz, HZ⟩ : ∃ wz, Hid (w3.drew.setCells b (r * 4) (#[Value.string k, Value.string v, Value.bool d, Value.int IntKind.i64 q] : Array Value).toList = wz) := ⟨_, rfl⟩
        rw [HZ.out]
        have HM9 : Hid (wz.heap[g]? = some (.cells (memC v9 A.last A.ch) 57 (0, 0))) := by show _ = _; rw [← HZ.out, setCells_ne _ _ _ _ _ (fun e => hbg e.symm), hv9]; exact hM.cells
        have HBX : Hid (wz.heap[w.heap.size]? = some (.cells #[Value.string k, Value.string v, Value.bool d, Value.int IntKind.i64 q] 29)) := by show _ = _; rw [← HZ.out, setCells_ne _ _ _ _ _ (by omega)]; exact HBX3.out
        have HROW : Hid (wz.ownsRow 0 29 4 v9 A9.es.length (flatE A9.es)) := by
          show World.ownsRow _ _ _ _ _ _ _
          rw [HE9.out, List.length_set, ← HZ.out, hv9]
          exact own_setE (w := w3.drew) hM.row r hrl ⟨k, v, d, q⟩
        have HOX : Hid (Only own w wz) := by
          show Only _ _ _
          rw [← HZ.out]
          exact Only.setCells (.inl hbo) _ _ ((Only.of_below (own := own) hbw3).drewN 1)
        have HNG : Hid (v9.ownBlock ≠ some g) := by
          show _ ≠ _
          rw [hv9]
          intro e
          exact hbg (by simpa [Value.ownBlock] using e)
        have HRO : Hid (∀ k, v9.ownBlock = some k → grow own w k) := fun k hk => .inl (hM.rown k (by rw [← hv9]; exact hk))
        refine hK.out _ _ ⟨four_cells HBX.out, by rw [cell_of_row _ _ _ _ _ _ HM9.out, hv9]; rfl⟩ (fun hHeld2 => ?_)
        clear hK K HZ hM hgg hcs ht hx3 hc0 hlz HTB hbg hblt hbo hB hnc hm HBX3 HM3 hbw3 hb4 HBX2 HM2 hbw2 HE9 hv9 x0 hfd hS
        refine wpAnyH_done (by kernel_rfl) ?_ _
        have hbx := four_cells HBX.out
        obtain ⟨x0, x1, x2, x3⟩ := hbx
        have g1 : wz.cell? ⟨g, 1, none⟩ = some (.int .i64 A.last) := by rw [cell_of_row _ _ _ _ _ _ HM9.out]; rfl
        have z1 : wz.frozen? ⟨g, 1, none⟩ = false := fz_of HM9.out 1
        go_wp2_with fail
        obtain ⟨wy, HY⟩ : ∃ wy, Hid (wz.setCell ⟨g, 1, none⟩ (.int .i64 q) = wy) := ⟨_, rfl⟩
        rw [HY.out]
        have HMY : Hid (wy.heap[g]? = some (.cells (memC v9 q A.ch) 57 (0, 0))) := by show _ = _; rw [← HY.out]; exact memC_set1 HM9.out
        have HBY : Hid (wy.heap[w.heap.size]? = some (.cells #[Value.string k, Value.string v, Value.bool d, Value.int IntKind.i64 q] 29)) := by show _ = _; rw [← HY.out, heap_set_ne _ _ _ (by omega)]; exact HBX.out
        have HOY : Hid (Only own w wy) := by show Only _ _ _; rw [← HY.out]; exact HOX.out.setCell (.inl HOG.out) _
        have HRY : Hid (wy.ownsRow 0 29 4 v9 A9.es.length (flatE A9.es)) := by show World.ownsRow _ _ _ _ _ _ _; rw [← HY.out]; exact row_block HROW.out (fun k hk => heap_set_ne _ _ _ (fun e => HNG.out (by rw [← e]; exact hk)))
        clear HY x0 x1 x2 x3 g1 z1 HM9 HBX HOX HROW
        have hy0 := four_cells HBY.out
        refine wp_region_held_drew (S := fun w' => w'.cell? ⟨w.heap.size, 0, none⟩ = some (.string k) ∧ w'.cell? ⟨w.heap.size, 1, none⟩ = some (.string v) ∧ w'.cell? ⟨w.heap.size, 2, none⟩ = some (.bool d) ∧ w'.cell? ⟨w.heap.size, 3, none⟩ = some (.int .i64 q)) (by kernel_rfl) hy0 (fun hS => ?_)
        refine wpAnyH_take (i := 0) (v := ?_) rfl (by kernel_rfl) (by kernel_rfl) (by kernel_rfl) (fun _ _ _ h => h) (Or.inl ⟨by rfl, ?_⟩) (by assumption) ?_
        rotate_left
        · (intro w hSw; (try dsimp only at hSw); go_simp; try with_reducible rfl)
        simp only [Act.put, List.getElem_toArray, List.getElem_cons_zero, List.setIfInBounds_toArray, List.set_cons_zero, List.set_cons_succ]
        refine wpAnyH_take (i := 1) (v := ?_) rfl (by kernel_rfl) (by kernel_rfl) (by kernel_rfl) (fun _ _ _ h => h) (Or.inl ⟨by rfl, ?_⟩) (by assumption) ?_
        rotate_left
        · (intro w hSw; (try dsimp only at hSw); go_simp; try with_reducible rfl)
        simp only [Act.put, List.getElem_toArray, List.getElem_cons_zero, List.getElem_cons_succ, List.setIfInBounds_toArray, List.set_cons_zero, List.set_cons_succ]
        refine wpAnyH_take (i := 2) (v := ?_) rfl (by kernel_rfl) (by kernel_rfl) (by kernel_rfl) (fun _ _ _ h => h) (Or.inl ⟨by rfl, ?_⟩) (by assumption) ?_
        rotate_left
        · (intro w hSw; (try dsimp only at hSw); go_simp; try with_reducible rfl)
        simp only [Act.put, List.getElem_toArray, List.getElem_cons_zero, List.getElem_cons_succ, List.setIfInBounds_toArray, List.set_cons_zero, List.set_cons_succ]
        refine wpAnyH_take (i := 3) (v := ?_) rfl (by kernel_rfl) (by kernel_rfl) (by kernel_rfl) (fun _ _ _ h => h) (Or.inl ⟨by rfl, ?_⟩) (by assumption) ?_
        rotate_left
        · (intro w hSw; (try dsimp only at hSw); go_simp; try with_reducible rfl)
        simp only [Act.put, List.getElem_toArray, List.getElem_cons_zero, List.getElem_cons_succ, List.setIfInBounds_toArray, List.set_cons_zero, List.set_cons_succ]
        refine wpAnyH_take (i := 5) (v := ?_) rfl (by kernel_rfl) (by kernel_rfl) (by kernel_rfl) (fun _ _ _ h => h) (Or.inl ⟨by rfl, ?_⟩) (by assumption) ?_
        rotate_left
        · (intro w hSw; (try dsimp only at hSw); go_simp; try with_reducible rfl)
        simp only [Act.put, List.getElem_toArray, List.getElem_cons_zero, List.getElem_cons_succ, List.setIfInBounds_toArray, List.set_cons_zero, List.set_cons_succ]
        refine wpAnyH_ready (rs := [4]) (by kernel_rfl) (by simp) ?_
        refine AllReadyH.cons rfl (fun K hK => ?_) AllReadyH.nil
        rw [if_pos (by rfl)]
        refine wp_load_mid 42 (.tmp 61) rfl g 2 rfl (cellsOf A.ch) _ (mem_range HMY.out) Tryd.underlying42 rfl (by rw [size42, cellsOf_length, HCL.out]) ?_
        refine hK.out _ _ hy0 (fun hHeld2 => ?_)
        clear hK K
        simp only [Act.put, List.getElem_toArray, List.getElem_cons_zero, List.getElem_cons_succ, List.setIfInBounds_toArray, List.set_cons_zero, List.set_cons_succ]
        refine wpAnyH_ready (rs := [6]) (by kernel_rfl) (by simp) ?_
        refine AllReadyH.cons rfl (fun K hK => ?_) AllReadyH.nil
        go_simp
        refine (behind_any A.ch k v d q wy.drew (HKY wy HOY.out) HCL.out hk hv).mono ?_
        rintro e wv ⟨rfl, hbv⟩
        go_wp2_with fail
        have hev : wv.heap[w.heap.size]? = some (.cells #[Value.string k, Value.string v, Value.bool d, Value.int IntKind.i64 q] 29) := (hbv.block _ (heap_lt HBY.out)).trans HBY.out
        have HMV : Hid (wv.heap[g]? = some (.cells (memC v9 q A.ch) 57 (0, 0))) := (hbv.block _ (heap_lt HMY.out)).trans HMY.out
        have HOV : Hid (Only own w wv) := (HOY.out.drewN 1).trans (Only.of_below (own := own) hbv) (fun _ e => .inl e)
        have HRV : Hid (wv.ownsRow 0 29 4 v9 A9.es.length (flatE A9.es)) := row_block HRY.out (fun k hk => hbv.block k (HRY.out.lt k hk).2)
        refine hK.out _ _ (four_cells hev) (fun hHeld2 => ?_)
        clear hK K hbv HOY HRY HMY HBY hy0
        obtain ⟨D, HD⟩ : ∃ D, Hid (D = (cellsOf (linkB A.ch ⟨k, v, d, q⟩)).toArray) := ⟨_, rfl⟩
        have hDs : D.size = 32 := by rw [HD.out, List.size_toArray, cellsOf_length, linkB_len]
        have hD1 : D.all (·.oneCell') = true := by rw [HD.out]; exact dig_one _
        have HTH : Hid (wv.there g 2 D.size) := by show World.there _ _ _ _; rw [hDs]; exact memC_there HMV.out HCL.out
        rw [← HD.out]
        refine wpAnyH_take (i := 7) (v := ?_) rfl (by kernel_rfl) (by kernel_rfl) (by kernel_rfl) (fun _ _ _ h => h) (Or.inl ⟨by rfl, ?_⟩) (by assumption) ?_
        rotate_left
        · (intro w hSw; (try dsimp only at hSw); go_simp; try with_reducible rfl)
        simp only [Act.put, List.getElem_toArray, List.getElem_cons_zero, List.getElem_cons_succ, List.setIfInBounds_toArray, List.set_cons_zero, List.set_cons_succ]
        refine wpAnyH_take (i := 8) (v := ?_) rfl (by kernel_rfl) (by kernel_rfl) (by kernel_rfl) (fun _ _ _ h => h) (Or.inl ⟨by rfl, ?_⟩) (by assumption) ?_
        rotate_left
        · (intro w hSw; (try dsimp only at hSw); go_simp; try with_reducible rfl)
        simp only [Act.put, List.getElem_toArray, List.getElem_cons_zero, List.getElem_cons_succ, List.setIfInBounds_toArray, List.set_cons_zero, List.set_cons_succ]
        refine wpAnyH_ready (rs := [9]) (by kernel_rfl) (by simp) ?_
        refine AllReadyH.cons rfl (fun K hK => ?_) AllReadyH.nil
        rw [if_pos (by rfl)]
        refine wp_store_mid 42 (.tmp 66) (.tmp 64) rfl g 2 D rfl rfl HTH.out (by rw [size42, hDs]) hD1 ?_
        rw [HD.out, memC_chain HMV.out HCL.out (linkB_len _ _)]
        refine hK.out _ _ (four_cells ((setRow_other wv g w.heap.size _ (by omega)).trans hev)) (fun hHeld2 => ?_)
        clear hK K
        refine wpAnyH_done (by kernel_rfl) ?_ _
        clear hDs hD1 HTH hev HD
        go_wp2_with fail
        go_ret
        refine ⟨by rw [hn9]; rfl, ⟨HWF, v9, .inl HOG.out, ?_, row_block HRV.out (fun k hk => setRow_other wv g k _ (fun e => HNG.out (by rw [← e]; exact hk))), HRO.out⟩, HOV.out.setRow (.inl HOG.out) _⟩
        rw [hA9l, hA9c]
        exact setRow_heap _ _ _ _ _ _ HMV.out
      | false =>
        by_cases hfull : 64 ≤ A.es.length
        · have hn9 : n9 = 3 := by rw [← HN.out, putN, if_neg hneg, if_pos ⟨HQI.out, hfull⟩]
          have hA9 : A9 = A := by rw [← HA.out, putA, HN.out, hn9]; rfl
          have hA64 : A.es.length = 64 := by omega
          have HC0 : Hid (∀ W', Below w2.heap.size w2 W' → ∃ ao c, W'.cell? ⟨g, 0, none⟩ = some (.slice ao 64 c)) := fun W' hb => by
            obtain ⟨wf, v8, hM⟩ := HM2.out.grown hb
            obtain ⟨ao, c, rfl, -⟩ := hM.slice
            exact ⟨ao, c, by have := hM.c0; rw [hA64] at this; exact this⟩
          clear hks hneg HN HA HIF hfull hA64 hln
          go_wp2_with (go_at_call 31; refine hfd.mono ?_; rintro e w3 ⟨rfl, hb4⟩; obtain ⟨ao, c, c0⟩ := HC0.out w3 hb4; have hbw3 : Below w.heap.size w w3 := hbw2.trans (hb4.mono hbw2.size))
          go_ret
          refine ⟨by rw [hn9]; rfl, ?_, Only.of_below hbw3⟩
          rw [hA9]
          exact (HH.out.grown hbw3).mono (fun k hk e => .inl e)
        · have hn9 : n9 = 0 := by rw [← HN.out, putN, if_neg hneg, if_neg (fun e => hfull e.2)]
          have hA9 : A9 = ⟨insL r ⟨k, v, d, q⟩ A.es, q, linkB A.ch ⟨k, v, d, q⟩⟩ := by rw [← HA.out, putA, HN.out, hn9, if_pos rfl, HIF.out]; rfl
          have hA9l : A9.last = q := by rw [hA9]
          have hA9c : A9.ch = linkB A.ch ⟨k, v, d, q⟩ := by rw [hA9]
          have HE9 : Hid (A9.es = insL r ⟨k, v, d, q⟩ A.es) := by show _ = _; rw [hA9]
          clear hks hneg HN HA HIF hA9
          have HC0 : Hid (∀ W', Below w2.heap.size w2 W' → ∃ ao c, W'.cell? ⟨g, 0, none⟩ = some (.slice ao A.es.length c) ∧ MemIn own W' g A (.slice ao A.es.length c)) := fun W' hb => by
            obtain ⟨wf, v8, hM⟩ := HM2.out.grown hb
            obtain ⟨ao, c, rfl, -⟩ := hM.slice
            exact ⟨ao, c, hM.c0, hM⟩
          have hlz : ¬ ((64 : Int) ≤ (A.es.length : Int)) := by omega
          have dlz : decide ((64 : Int) ≤ (A.es.length : Int)) = false := decide_eq_false hlz
          go_wp2_with (go_at_call 31; refine hfd.mono ?_; rintro e w3 ⟨rfl, hb4⟩; obtain ⟨ao, c, c0, hM⟩ := HC0.out w3 hb4)
          have hbw3 : Below w.heap.size w w3 := hbw2.trans (hb4.mono hbw2.size)
          have HBX3 : Hid (w3.heap[w.heap.size]? = some (.cells #[Value.string k, Value.string v, Value.bool d, Value.int IntKind.i64 q] 29)) := (hb4.block _ (heap_lt HBX2.out)).trans HBX2.out
          have hx3 := four_cells HBX3.out
          have hsz3 : w.heap.size < w3.heap.size := heap_lt HBX3.out
          have hkb : ∀ kk, (Value.slice ao A.es.length c).ownBlock = some kk → kk < w.heap.size ∧ kk ≠ g ∧ own kk := fun kk hkk => by
            refine ⟨?_, ?_, hM.rown kk hkk⟩
            · obtain ⟨_, v7, h7⟩ := HH.out
              have h8 := bel_cell hbw3 (Nat.le_refl _) h7.c0
              rw [hM.c0] at h8
              cases h8
              exact (h7.row.lt kk hkk).2
            · obtain ⟨cur, e1⟩ := row_heap hM.row hkk
              exact ne_kind e1 hM.cells (by decide)
          have HKB : Hid (∀ kk, (Value.slice ao A.es.length c).ownBlock = some kk → kk < w.heap.size ∧ kk ≠ g ∧ own kk) := hkb
          obtain ⟨wb, HWB⟩ : ∃ wb, Hid ((w3.alloc (.cells #[Value.string k, Value.string v, Value.bool d, Value.int IntKind.i64 q] 29)).drew = wb) := ⟨_, rfl⟩
          have hbb : Below w3.heap.size w3 wb := by rw [← HWB.out]; exact Below.drew (bel_alloc w3 _)
          have HBXB : Hid (wb.heap[w.heap.size]? = some (.cells #[Value.string k, Value.string v, Value.bool d, Value.int IntKind.i64 q] 29)) := (hbb.block _ hsz3).trans HBX3.out
          have HVB : Hid (wb.heap[w3.heap.size]? = some (.cells (encE ⟨k, v, d, q⟩).toArray 29 (0, 0))) := by show _ = _; rw [← HWB.out]; exact heap_alloc_new w3 _
          have HRB : Hid (wb.ownsRow 0 29 4 (.slice ao A.es.length c) A.es.length (flatE A.es)) := row_block hM.row (fun kk hk => hbb.block kk (hM.row.lt kk hk).2)
          have HMB : Hid (wb.heap[g]? = some (.cells (memC (.slice ao A.es.length c) A.last A.ch) 57 (0, 0))) := (hbb.block _ (heap_lt hM.cells)).trans hM.cells
          have HOB : Hid (Only own w wb) := (Only.of_below (own := own) hbw3).trans (Only.of_below (own := own) hbb) (fun _ e => .inl e)
          have HSB : Hid (w3.heap.size < wb.heap.size) := heap_lt HVB.out
          have hcb : wb.cell? ⟨g, 0, none⟩ = some (.slice ao A.es.length c) := (cell_of_row _ _ _ _ _ _ HMB.out).trans rfl
          have c0d : w3.drew.cell? ⟨g, 0, none⟩ = some (.slice ao A.es.length c) := c0
          have HIC : Hid _ := insert_any (.slice ao A.es.length c) A.es.length r w3.heap.size A.es ⟨k, v, d, q⟩ wb HRL.out (by omega) HRB.out HVB.out (fun e => by have := (HKB.out _ e).1; omega)
          clear hM hbb hkb HC0 hbw3 HBX3 hb4 HRL dlz hlz hln hfull
          refine wp_region_held_drew (S := fun w' => w'.cell? ⟨w.heap.size, 0, none⟩ = some (.string k) ∧ w'.cell? ⟨w.heap.size, 1, none⟩ = some (.string v) ∧ w'.cell? ⟨w.heap.size, 2, none⟩ = some (.bool d) ∧ w'.cell? ⟨w.heap.size, 3, none⟩ = some (.int .i64 q)) (by kernel_rfl) hx3 (fun hS => ?_)
          refine wpAnyH_take (i := 0) (v := ?_) rfl (by kernel_rfl) (by kernel_rfl) (by kernel_rfl) (fun _ _ _ h => h) (Or.inl ⟨by rfl, ?_⟩) (by assumption) ?_
          rotate_left
          · (intro w hSw; (try dsimp only at hSw); go_simp; try with_reducible rfl)
          simp only [Act.put, List.getElem_toArray, List.getElem_cons_zero, List.setIfInBounds_toArray, List.set_cons_zero, List.set_cons_succ]
          refine wpAnyH_take (i := 1) (v := ?_) rfl (by kernel_rfl) (by kernel_rfl) (by kernel_rfl) (fun _ _ _ h => h) (Or.inl ⟨by rfl, ?_⟩) (by assumption) ?_
          rotate_left
          · (intro w hSw; (try dsimp only at hSw); go_simp; try with_reducible rfl)
          simp only [Act.put, List.getElem_toArray, List.getElem_cons_zero, List.getElem_cons_succ, List.setIfInBounds_toArray, List.set_cons_zero, List.set_cons_succ]
          refine wpAnyH_take (i := 2) (v := ?_) rfl (by kernel_rfl) (by kernel_rfl) (by kernel_rfl) (fun _ _ _ h => h) (Or.inl ⟨by rfl, ?_⟩) (by assumption) ?_
          rotate_left
          · (intro w hSw; (try dsimp only at hSw); go_simp; try with_reducible rfl)
          simp only [Act.put, List.getElem_toArray, List.getElem_cons_zero, List.getElem_cons_succ, List.setIfInBounds_toArray, List.set_cons_zero, List.set_cons_succ]
          refine wpAnyH_take (i := 3) (v := ?_) rfl (by kernel_rfl) (by kernel_rfl) (by kernel_rfl) (fun _ _ _ h => h) (Or.inl ⟨by rfl, ?_⟩) (by assumption) ?_
          rotate_left
          · (intro w hSw; (try dsimp only at hSw); go_simp; try with_reducible rfl)
          simp only [Act.put, List.getElem_toArray, List.getElem_cons_zero, List.getElem_cons_succ, List.setIfInBounds_toArray, List.set_cons_zero, List.set_cons_succ]
          refine wpAnyH_take (i := 5) (v := ?_) rfl (by kernel_rfl) (by kernel_rfl) (by kernel_rfl) (fun _ _ _ h => h) (Or.inl ⟨by rfl, ?_⟩) (by assumption) ?_
          rotate_left
          · (intro w hSw; (try dsimp only at hSw); go_simp; try with_reducible rfl)
          simp only [Act.put, List.getElem_toArray, List.getElem_cons_zero, List.getElem_cons_succ, List.setIfInBounds_toArray, List.set_cons_zero, List.set_cons_succ]
          refine wpAnyH_take (i := 6) (v := ?_) rfl (by kernel_rfl) (by kernel_rfl) (by kernel_rfl) (fun _ _ _ h => h) (Or.inl ⟨by rfl, ?_⟩) (by assumption) ?_
          rotate_left
          · (intro w hSw; (try dsimp only at hSw); go_simp; try with_reducible rfl)
          simp only [Act.put, List.getElem_toArray, List.getElem_cons_zero, List.getElem_cons_succ, List.setIfInBounds_toArray, List.set_cons_zero, List.set_cons_succ]
          refine wpAnyH_ready (rs := [4, 7]) (by kernel_rfl) (by simp) ?_
          refine AllReadyH.cons rfl (fun K hK => ?_) (AllReadyH.cons rfl (fun K hK => ?_) AllReadyH.nil)
          · go_simp
            refine hK.out _ _ hx3 (fun hHeld2 => ?_)
            clear hK K
            try simp only [Act.put, List.getElem_toArray, List.getElem_cons_zero, List.getElem_cons_succ, List.setIfInBounds_toArray, List.set_cons_zero, List.set_cons_succ]
            refine wpAnyH_ready (rs := [7]) (by kernel_rfl) (by simp) ?_
            refine AllReadyH.cons rfl (fun K hK => ?_) AllReadyH.nil
            go_simp
            rw [HWB.out]
            refine hK.out _ _ (four_cells HBXB.out) (fun hHeld2 => ?_)
            clear hK K
            try simp only [Act.put, List.getElem_toArray, List.getElem_cons_zero, List.getElem_cons_succ, List.setIfInBounds_toArray, List.set_cons_zero, List.set_cons_succ]
            refine wpAnyH_ready (rs := [8]) (by kernel_rfl) (by simp) ?_
            refine AllReadyH.cons rfl (fun K hK => ?_) AllReadyH.nil
            go_simp
            refine Calls.mono HIC.out ?_
            rintro e w5 ⟨v9x, rfl, how5, hon5, hbl5⟩
            obtain ⟨b9, c9, rfl, -, hb9l⟩ := how5.form (Nat.succ_pos _)
            obtain ⟨v9, hv9⟩ : ∃ v9, v9 = Value.slice (some ⟨b9, 0, none⟩) (A.es.length + 1) c9 := ⟨_, rfl⟩
            have HM5 : Hid (w5.heap[g]? = some (.cells (memC (.slice ao A.es.length c) A.last A.ch) 57 (0, 0))) := (hon5.block g (heap_lt HMB.out) (fun e => (HKB.out g e).2.1 rfl)).trans HMB.out
            have HBX5 : Hid (w5.heap[w.heap.size]? = some (.cells #[Value.string k, Value.string v, Value.bool d, Value.int IntKind.i64 q] 29)) := (hon5.block _ (heap_lt HBXB.out) (fun e => by have := (HKB.out _ e).1; omega)).trans HBXB.out
            have c5 : w5.cell? ⟨g, 0, none⟩ = some (.slice ao A.es.length c) := (cell_of_row _ _ _ _ _ _ HM5.out).trans rfl
            have z5 : w5.frozen? ⟨g, 0, none⟩ = false := fz_of HM5.out 0
            have HNG : Hid (v9.ownBlock ≠ some g) := by
              show _ ≠ _
              rw [hv9]
              intro e
              rcases hbl5 g e with e2 | e2
              · exact (HKB.out g e2).2.1 rfl
              · have := HSB.out; omega
            have HRO : Hid (∀ k, v9.ownBlock = some k → grow own w k) := fun kk hk => by
              rw [hv9] at hk
              rcases hbl5 kk hk with e2 | e2
              · exact .inl (HKB.out kk e2).2.2
              · exact .inr (by have := HSB.out; omega)
            have HO5 : Hid (Only own w w5) := HOB.out.trans hon5 (fun kk e => .inl (HKB.out kk e).2.2)
            have HR5 : Hid (w5.ownsRow 0 29 4 v9 A9.es.length (flatE A9.es)) := by
              show World.ownsRow _ _ _ _ _ _ _
              rw [HE9.out, insL_len, hv9]
              exact how5
            go_wp2_with fail
            refine hK.out _ _ (four_cells HBX5.out) (fun hHeld2 => ?_)
            clear hK K how5 hon5 hbl5 HIC HE9
            refine wpAnyH_take (i := 9) (v := ?_) rfl (by kernel_rfl) (by kernel_rfl) (by kernel_rfl) (fun _ _ _ h => h) (Or.inl ⟨by rfl, ?_⟩) (by assumption) ?_
            rotate_left
            · (intro w hSw; (try dsimp only at hSw); go_simp; try with_reducible rfl)
            simp only [Act.put, List.getElem_toArray, List.getElem_cons_zero, List.getElem_cons_succ, List.setIfInBounds_toArray, List.set_cons_zero, List.set_cons_succ]
            refine wpAnyH_take (i := 10) (v := ?_) rfl (by kernel_rfl) (by kernel_rfl) (by kernel_rfl) (fun _ _ _ h => h) (Or.inl ⟨by rfl, ?_⟩) (by assumption) ?_
            rotate_left
            · (intro w hSw; (try dsimp only at hSw); go_simp; try with_reducible rfl)
            simp only [Act.put, List.getElem_toArray, List.getElem_cons_zero, List.getElem_cons_succ, List.setIfInBounds_toArray, List.set_cons_zero, List.set_cons_succ]
            refine wpAnyH_ready (rs := [11]) (by kernel_rfl) (by simp) ?_
            refine AllReadyH.cons rfl (fun K hK => ?_) AllReadyH.nil
            go_simp
            rw [← hv9]
            obtain ⟨wz, HZ⟩ : ∃ wz, Hid (w5.setCell ⟨g, 0, none⟩ v9 = wz) := ⟨_, rfl⟩
            rw [HZ.out]
            have HM9 : Hid (wz.heap[g]? = some (.cells (memC v9 A.last A.ch) 57 (0, 0))) := by show _ = _; rw [← HZ.out]; exact memC_set0 HM5.out
            have HBX : Hid (wz.heap[w.heap.size]? = some (.cells #[Value.string k, Value.string v, Value.bool d, Value.int IntKind.i64 q] 29)) := by show _ = _; rw [← HZ.out, heap_set_ne _ _ _ (by omega)]; exact HBX5.out
            have HROW : Hid (wz.ownsRow 0 29 4 v9 A9.es.length (flatE A9.es)) := by show World.ownsRow _ _ _ _ _ _ _; rw [← HZ.out]; exact row_block HR5.out (fun k hk => heap_set_ne _ _ _ (fun e => HNG.out (by rw [← e]; exact hk)))
            have HOX : Hid (Only own w wz) := by show Only _ _ _; rw [← HZ.out]; exact HO5.out.setCell (.inl HOG.out) _
            refine hK.out _ _ (four_cells HBX.out) (fun hHeld2 => ?_)
            clear hK K HZ HM5 HBX5 c5 z5 HO5 HR5 hv9 hb9l HKB HMB HRB HVB HBXB HOB HSB HWB hcb c0d hsz3 hx3 HBX2 HM2 hbw2 x0 hfd hS
            refine wpAnyH_done (by kernel_rfl) ?_ _
            have hbx := four_cells HBX.out
            obtain ⟨x0, x1, x2, x3⟩ := hbx
            have g1 : wz.cell? ⟨g, 1, none⟩ = some (.int .i64 A.last) := by rw [cell_of_row _ _ _ _ _ _ HM9.out]; rfl
            have z1 : wz.frozen? ⟨g, 1, none⟩ = false := fz_of HM9.out 1
            go_wp2_with fail
            obtain ⟨wy, HY⟩ : ∃ wy, Hid (wz.setCell ⟨g, 1, none⟩ (.int .i64 q) = wy) := ⟨_, rfl⟩
            rw [HY.out]
            have HMY : Hid (wy.heap[g]? = some (.cells (memC v9 q A.ch) 57 (0, 0))) := by show _ = _; rw [← HY.out]; exact memC_set1 HM9.out
            have HBY : Hid (wy.heap[w.heap.size]? = some (.cells #[Value.string k, Value.string v, Value.bool d, Value.int IntKind.i64 q] 29)) := by show _ = _; rw [← HY.out, heap_set_ne _ _ _ (by omega)]; exact HBX.out
            have HOY : Hid (Only own w wy) := by show Only _ _ _; rw [← HY.out]; exact HOX.out.setCell (.inl HOG.out) _
            have HRY : Hid (wy.ownsRow 0 29 4 v9 A9.es.length (flatE A9.es)) := by show World.ownsRow _ _ _ _ _ _ _; rw [← HY.out]; exact row_block HROW.out (fun k hk => heap_set_ne _ _ _ (fun e => HNG.out (by rw [← e]; exact hk)))
            clear HY x0 x1 x2 x3 g1 z1 HM9 HBX HOX HROW
            have hy0 := four_cells HBY.out
            refine wp_region_held_drew (S := fun w' => w'.cell? ⟨w.heap.size, 0, none⟩ = some (.string k) ∧ w'.cell? ⟨w.heap.size, 1, none⟩ = some (.string v) ∧ w'.cell? ⟨w.heap.size, 2, none⟩ = some (.bool d) ∧ w'.cell? ⟨w.heap.size, 3, none⟩ = some (.int .i64 q)) (by kernel_rfl) hy0 (fun hS => ?_)
            refine wpAnyH_take (i := 0) (v := ?_) rfl (by kernel_rfl) (by kernel_rfl) (by kernel_rfl) (fun _ _ _ h => h) (Or.inl ⟨by rfl, ?_⟩) (by assumption) ?_
            rotate_left
            · (intro w hSw; (try dsimp only at hSw); go_simp; try with_reducible rfl)
            simp only [Act.put, List.getElem_toArray, List.getElem_cons_zero, List.setIfInBounds_toArray, List.set_cons_zero, List.set_cons_succ]
            refine wpAnyH_take (i := 1) (v := ?_) rfl (by kernel_rfl) (by kernel_rfl) (by kernel_rfl) (fun _ _ _ h => h) (Or.inl ⟨by rfl, ?_⟩) (by assumption) ?_
            rotate_left
            · (intro w hSw; (try dsimp only at hSw); go_simp; try with_reducible rfl)
            simp only [Act.put, List.getElem_toArray, List.getElem_cons_zero, List.getElem_cons_succ, List.setIfInBounds_toArray, List.set_cons_zero, List.set_cons_succ]
            refine wpAnyH_take (i := 2) (v := ?_) rfl (by kernel_rfl) (by kernel_rfl) (by kernel_rfl) (fun _ _ _ h => h) (Or.inl ⟨by rfl, ?_⟩) (by assumption) ?_
            rotate_left
            · (intro w hSw; (try dsimp only at hSw); go_simp; try with_reducible rfl)
            simp only [Act.put, List.getElem_toArray, List.getElem_cons_zero, List.getElem_cons_succ, List.setIfInBounds_toArray, List.set_cons_zero, List.set_cons_succ]
            refine wpAnyH_take (i := 3) (v := ?_) rfl (by kernel_rfl) (by kernel_rfl) (by kernel_rfl) (fun _ _ _ h => h) (Or.inl ⟨by rfl, ?_⟩) (by assumption) ?_
            rotate_left
            · (intro w hSw; (try dsimp only at hSw); go_simp; try with_reducible rfl)
            simp only [Act.put, List.getElem_toArray, List.getElem_cons_zero, List.getElem_cons_succ, List.setIfInBounds_toArray, List.set_cons_zero, List.set_cons_succ]
            refine wpAnyH_take (i := 5) (v := ?_) rfl (by kernel_rfl) (by kernel_rfl) (by kernel_rfl) (fun _ _ _ h => h) (Or.inl ⟨by rfl, ?_⟩) (by assumption) ?_
            rotate_left
            · (intro w hSw; (try dsimp only at hSw); go_simp; try with_reducible rfl)
            simp only [Act.put, List.getElem_toArray, List.getElem_cons_zero, List.getElem_cons_succ, List.setIfInBounds_toArray, List.set_cons_zero, List.set_cons_succ]
            refine wpAnyH_ready (rs := [4]) (by kernel_rfl) (by simp) ?_
            refine AllReadyH.cons rfl (fun K hK => ?_) AllReadyH.nil
            rw [if_pos (by rfl)]
            refine wp_load_mid 42 (.tmp 61) rfl g 2 rfl (cellsOf A.ch) _ (mem_range HMY.out) Tryd.underlying42 rfl (by rw [size42, cellsOf_length, HCL.out]) ?_
            refine hK.out _ _ hy0 (fun hHeld2 => ?_)
            clear hK K
            simp only [Act.put, List.getElem_toArray, List.getElem_cons_zero, List.getElem_cons_succ, List.setIfInBounds_toArray, List.set_cons_zero, List.set_cons_succ]
            refine wpAnyH_ready (rs := [6]) (by kernel_rfl) (by simp) ?_
            refine AllReadyH.cons rfl (fun K hK => ?_) AllReadyH.nil
            go_simp
            refine (behind_any A.ch k v d q wy.drew (HKY wy HOY.out) HCL.out hk hv).mono ?_
            rintro e wv ⟨rfl, hbv⟩
            go_wp2_with fail
            have hev : wv.heap[w.heap.size]? = some (.cells #[Value.string k, Value.string v, Value.bool d, Value.int IntKind.i64 q] 29) := (hbv.block _ (heap_lt HBY.out)).trans HBY.out
            have HMV : Hid (wv.heap[g]? = some (.cells (memC v9 q A.ch) 57 (0, 0))) := (hbv.block _ (heap_lt HMY.out)).trans HMY.out
            have HOV : Hid (Only own w wv) := (HOY.out.drewN 1).trans (Only.of_below (own := own) hbv) (fun _ e => .inl e)
            have HRV : Hid (wv.ownsRow 0 29 4 v9 A9.es.length (flatE A9.es)) := row_block HRY.out (fun k hk => hbv.block k (HRY.out.lt k hk).2)
            refine hK.out _ _ (four_cells hev) (fun hHeld2 => ?_)
            clear hK K hbv HOY HRY HMY HBY hy0
            obtain ⟨D, HD⟩ : ∃ D, Hid (D = (cellsOf (linkB A.ch ⟨k, v, d, q⟩)).toArray) := ⟨_, rfl⟩
            have hDs : D.size = 32 := by rw [HD.out, List.size_toArray, cellsOf_length, linkB_len]
            have hD1 : D.all (·.oneCell') = true := by rw [HD.out]; exact dig_one _
            have HTH : Hid (wv.there g 2 D.size) := by show World.there _ _ _ _; rw [hDs]; exact memC_there HMV.out HCL.out
            rw [← HD.out]
            refine wpAnyH_take (i := 7) (v := ?_) rfl (by kernel_rfl) (by kernel_rfl) (by kernel_rfl) (fun _ _ _ h => h) (Or.inl ⟨by rfl, ?_⟩) (by assumption) ?_
            rotate_left
            · (intro w hSw; (try dsimp only at hSw); go_simp; try with_reducible rfl)
            simp only [Act.put, List.getElem_toArray, List.getElem_cons_zero, List.getElem_cons_succ, List.setIfInBounds_toArray, List.set_cons_zero, List.set_cons_succ]
            refine wpAnyH_take (i := 8) (v := ?_) rfl (by kernel_rfl) (by kernel_rfl) (by kernel_rfl) (fun _ _ _ h => h) (Or.inl ⟨by rfl, ?_⟩) (by assumption) ?_
            rotate_left
            · (intro w hSw; (try dsimp only at hSw); go_simp; try with_reducible rfl)
            simp only [Act.put, List.getElem_toArray, List.getElem_cons_zero, List.getElem_cons_succ, List.setIfInBounds_toArray, List.set_cons_zero, List.set_cons_succ]
            refine wpAnyH_ready (rs := [9]) (by kernel_rfl) (by simp) ?_
            refine AllReadyH.cons rfl (fun K hK => ?_) AllReadyH.nil
            rw [if_pos (by rfl)]
            refine wp_store_mid 42 (.tmp 66) (.tmp 64) rfl g 2 D rfl rfl HTH.out (by rw [size42, hDs]) hD1 ?_
            rw [HD.out, memC_chain HMV.out HCL.out (linkB_len _ _)]
            refine hK.out _ _ (four_cells ((setRow_other wv g w.heap.size _ (by omega)).trans hev)) (fun hHeld2 => ?_)
            clear hK K
            refine wpAnyH_done (by kernel_rfl) ?_ _
            clear hDs hD1 HTH hev HD
            go_wp2_with fail
            go_ret
            refine ⟨by rw [hn9]; rfl, ⟨HWF, v9, .inl HOG.out, ?_, row_block HRV.out (fun k hk => setRow_other wv g k _ (fun e => HNG.out (by rw [← e]; exact hk))), HRO.out⟩, HOV.out.setRow (.inl HOG.out) _⟩
            rw [hA9l, hA9c]
            exact setRow_heap _ _ _ _ _ _ HMV.out
          · go_simp
            rw [HWB.out]
            refine hK.out _ _ (four_cells HBXB.out) (fun hHeld2 => ?_)
            clear hK K
            try simp only [Act.put, List.getElem_toArray, List.getElem_cons_zero, List.getElem_cons_succ, List.setIfInBounds_toArray, List.set_cons_zero, List.set_cons_succ]
            refine wpAnyH_ready (rs := [4]) (by kernel_rfl) (by simp) ?_
            refine AllReadyH.cons rfl (fun K hK => ?_) AllReadyH.nil
            go_simp
            refine hK.out _ _ (four_cells HBXB.out) (fun hHeld2 => ?_)
            clear hK K
            try simp only [Act.put, List.getElem_toArray, List.getElem_cons_zero, List.getElem_cons_succ, List.setIfInBounds_toArray, List.set_cons_zero, List.set_cons_succ]
            refine wpAnyH_ready (rs := [8]) (by kernel_rfl) (by simp) ?_
            refine AllReadyH.cons rfl (fun K hK => ?_) AllReadyH.nil
            go_simp
            refine Calls.mono HIC.out ?_
            rintro e w5 ⟨v9x, rfl, how5, hon5, hbl5⟩
            obtain ⟨b9, c9, rfl, -, hb9l⟩ := how5.form (Nat.succ_pos _)
            obtain ⟨v9, hv9⟩ : ∃ v9, v9 = Value.slice (some ⟨b9, 0, none⟩) (A.es.length + 1) c9 := ⟨_, rfl⟩
            have HM5 : Hid (w5.heap[g]? = some (.cells (memC (.slice ao A.es.length c) A.last A.ch) 57 (0, 0))) := (hon5.block g (heap_lt HMB.out) (fun e => (HKB.out g e).2.1 rfl)).trans HMB.out
            have HBX5 : Hid (w5.heap[w.heap.size]? = some (.cells #[Value.string k, Value.string v, Value.bool d, Value.int IntKind.i64 q] 29)) := (hon5.block _ (heap_lt HBXB.out) (fun e => by have := (HKB.out _ e).1; omega)).trans HBXB.out
            have c5 : w5.cell? ⟨g, 0, none⟩ = some (.slice ao A.es.length c) := (cell_of_row _ _ _ _ _ _ HM5.out).trans rfl
            have z5 : w5.frozen? ⟨g, 0, none⟩ = false := fz_of HM5.out 0
            have HNG : Hid (v9.ownBlock ≠ some g) := by
              show _ ≠ _
              rw [hv9]
              intro e
              rcases hbl5 g e with e2 | e2
              · exact (HKB.out g e2).2.1 rfl
              · have := HSB.out; omega
            have HRO : Hid (∀ k, v9.ownBlock = some k → grow own w k) := fun kk hk => by
              rw [hv9] at hk
              rcases hbl5 kk hk with e2 | e2
              · exact .inl (HKB.out kk e2).2.2
              · exact .inr (by have := HSB.out; omega)
            have HO5 : Hid (Only own w w5) := HOB.out.trans hon5 (fun kk e => .inl (HKB.out kk e).2.2)
            have HR5 : Hid (w5.ownsRow 0 29 4 v9 A9.es.length (flatE A9.es)) := by
              show World.ownsRow _ _ _ _ _ _ _
              rw [HE9.out, insL_len, hv9]
              exact how5
            go_wp2_with fail
            refine hK.out _ _ (four_cells HBX5.out) (fun hHeld2 => ?_)
            clear hK K how5 hon5 hbl5 HIC HE9
            refine wpAnyH_take (i := 9) (v := ?_) rfl (by kernel_rfl) (by kernel_rfl) (by kernel_rfl) (fun _ _ _ h => h) (Or.inl ⟨by rfl, ?_⟩) (by assumption) ?_
            rotate_left
            · (intro w hSw; (try dsimp only at hSw); go_simp; try with_reducible rfl)
            simp only [Act.put, List.getElem_toArray, List.getElem_cons_zero, List.getElem_cons_succ, List.setIfInBounds_toArray, List.set_cons_zero, List.set_cons_succ]
            refine wpAnyH_take (i := 10) (v := ?_) rfl (by kernel_rfl) (by kernel_rfl) (by kernel_rfl) (fun _ _ _ h => h) (Or.inl ⟨by rfl, ?_⟩) (by assumption) ?_
            rotate_left
            · (intro w hSw; (try dsimp only at hSw); go_simp; try with_reducible rfl)
            simp only [Act.put, List.getElem_toArray, List.getElem_cons_zero, List.getElem_cons_succ, List.setIfInBounds_toArray, List.set_cons_zero, List.set_cons_succ]
            refine wpAnyH_ready (rs := [11]) (by kernel_rfl) (by simp) ?_
            refine AllReadyH.cons rfl (fun K hK => ?_) AllReadyH.nil
            go_simp
            rw [← hv9]
            obtain ⟨wz, HZ⟩ : ∃ wz, Hid (w5.setCell ⟨g, 0, none⟩ v9 = wz) := ⟨_, rfl⟩
            rw [HZ.out]
            have HM9 : Hid (wz.heap[g]? = some (.cells (memC v9 A.last A.ch) 57 (0, 0))) := by show _ = _; rw [← HZ.out]; exact memC_set0 HM5.out
            have HBX : Hid (wz.heap[w.heap.size]? = some (.cells #[Value.string k, Value.string v, Value.bool d, Value.int IntKind.i64 q] 29)) := by show _ = _; rw [← HZ.out, heap_set_ne _ _ _ (by omega)]; exact HBX5.out
            have HROW : Hid (wz.ownsRow 0 29 4 v9 A9.es.length (flatE A9.es)) := by show World.ownsRow _ _ _ _ _ _ _; rw [← HZ.out]; exact row_block HR5.out (fun k hk => heap_set_ne _ _ _ (fun e => HNG.out (by rw [← e]; exact hk)))
            have HOX : Hid (Only own w wz) := by show Only _ _ _; rw [← HZ.out]; exact HO5.out.setCell (.inl HOG.out) _
            refine hK.out _ _ (four_cells HBX.out) (fun hHeld2 => ?_)
            clear hK K HZ HM5 HBX5 c5 z5 HO5 HR5 hv9 hb9l HKB HMB HRB HVB HBXB HOB HSB HWB hcb c0d hsz3 hx3 HBX2 HM2 hbw2 x0 hfd hS
            refine wpAnyH_done (by kernel_rfl) ?_ _
            have hbx := four_cells HBX.out
            obtain ⟨x0, x1, x2, x3⟩ := hbx
            have g1 : wz.cell? ⟨g, 1, none⟩ = some (.int .i64 A.last) := by rw [cell_of_row _ _ _ _ _ _ HM9.out]; rfl
            have z1 : wz.frozen? ⟨g, 1, none⟩ = false := fz_of HM9.out 1
            go_wp2_with fail
            obtain ⟨wy, HY⟩ : ∃ wy, Hid (wz.setCell ⟨g, 1, none⟩ (.int .i64 q) = wy) := ⟨_, rfl⟩
            rw [HY.out]
            have HMY : Hid (wy.heap[g]? = some (.cells (memC v9 q A.ch) 57 (0, 0))) := by show _ = _; rw [← HY.out]; exact memC_set1 HM9.out
            have HBY : Hid (wy.heap[w.heap.size]? = some (.cells #[Value.string k, Value.string v, Value.bool d, Value.int IntKind.i64 q] 29)) := by show _ = _; rw [← HY.out, heap_set_ne _ _ _ (by omega)]; exact HBX.out
            have HOY : Hid (Only own w wy) := by show Only _ _ _; rw [← HY.out]; exact HOX.out.setCell (.inl HOG.out) _
            have HRY : Hid (wy.ownsRow 0 29 4 v9 A9.es.length (flatE A9.es)) := by show World.ownsRow _ _ _ _ _ _ _; rw [← HY.out]; exact row_block HROW.out (fun k hk => heap_set_ne _ _ _ (fun e => HNG.out (by rw [← e]; exact hk)))
            clear HY x0 x1 x2 x3 g1 z1 HM9 HBX HOX HROW
            have hy0 := four_cells HBY.out
            refine wp_region_held_drew (S := fun w' => w'.cell? ⟨w.heap.size, 0, none⟩ = some (.string k) ∧ w'.cell? ⟨w.heap.size, 1, none⟩ = some (.string v) ∧ w'.cell? ⟨w.heap.size, 2, none⟩ = some (.bool d) ∧ w'.cell? ⟨w.heap.size, 3, none⟩ = some (.int .i64 q)) (by kernel_rfl) hy0 (fun hS => ?_)
            refine wpAnyH_take (i := 0) (v := ?_) rfl (by kernel_rfl) (by kernel_rfl) (by kernel_rfl) (fun _ _ _ h => h) (Or.inl ⟨by rfl, ?_⟩) (by assumption) ?_
            rotate_left
            · (intro w hSw; (try dsimp only at hSw); go_simp; try with_reducible rfl)
            simp only [Act.put, List.getElem_toArray, List.getElem_cons_zero, List.setIfInBounds_toArray, List.set_cons_zero, List.set_cons_succ]
            refine wpAnyH_take (i := 1) (v := ?_) rfl (by kernel_rfl) (by kernel_rfl) (by kernel_rfl) (fun _ _ _ h => h) (Or.inl ⟨by rfl, ?_⟩) (by assumption) ?_
            rotate_left
            · (intro w hSw; (try dsimp only at hSw); go_simp; try with_reducible rfl)
            simp only [Act.put, List.getElem_toArray, List.getElem_cons_zero, List.getElem_cons_succ, List.setIfInBounds_toArray, List.set_cons_zero, List.set_cons_succ]
            refine wpAnyH_take (i := 2) (v := ?_) rfl (by kernel_rfl) (by kernel_rfl) (by kernel_rfl) (fun _ _ _ h => h) (Or.inl ⟨by rfl, ?_⟩) (by assumption) ?_
            rotate_left
            · (intro w hSw; (try dsimp only at hSw); go_simp; try with_reducible rfl)
            simp only [Act.put, List.getElem_toArray, List.getElem_cons_zero, List.getElem_cons_succ, List.setIfInBounds_toArray, List.set_cons_zero, List.set_cons_succ]
            refine wpAnyH_take (i := 3) (v := ?_) rfl (by kernel_rfl) (by kernel_rfl) (by kernel_rfl) (fun _ _ _ h => h) (Or.inl ⟨by rfl, ?_⟩) (by assumption) ?_
            rotate_left
            · (intro w hSw; (try dsimp only at hSw); go_simp; try with_reducible rfl)
            simp only [Act.put, List.getElem_toArray, List.getElem_cons_zero, List.getElem_cons_succ, List.setIfInBounds_toArray, List.set_cons_zero, List.set_cons_succ]
            refine wpAnyH_take (i := 5) (v := ?_) rfl (by kernel_rfl) (by kernel_rfl) (by kernel_rfl) (fun _ _ _ h => h) (Or.inl ⟨by rfl, ?_⟩) (by assumption) ?_
            rotate_left
            · (intro w hSw; (try dsimp only at hSw); go_simp; try with_reducible rfl)
            simp only [Act.put, List.getElem_toArray, List.getElem_cons_zero, List.getElem_cons_succ, List.setIfInBounds_toArray, List.set_cons_zero, List.set_cons_succ]
            refine wpAnyH_ready (rs := [4]) (by kernel_rfl) (by simp) ?_
            refine AllReadyH.cons rfl (fun K hK => ?_) AllReadyH.nil
            rw [if_pos (by rfl)]
            refine wp_load_mid 42 (.tmp 61) rfl g 2 rfl (cellsOf A.ch) _ (mem_range HMY.out) Tryd.underlying42 rfl (by rw [size42, cellsOf_length, HCL.out]) ?_
            refine hK.out _ _ hy0 (fun hHeld2 => ?_)
            clear hK K
            simp only [Act.put, List.getElem_toArray, List.getElem_cons_zero, List.getElem_cons_succ, List.setIfInBounds_toArray, List.set_cons_zero, List.set_cons_succ]
            refine wpAnyH_ready (rs := [6]) (by kernel_rfl) (by simp) ?_
            refine AllReadyH.cons rfl (fun K hK => ?_) AllReadyH.nil
            go_simp
            refine (behind_any A.ch k v d q wy.drew (HKY wy HOY.out) HCL.out hk hv).mono ?_
            rintro e wv ⟨rfl, hbv⟩
            go_wp2_with fail
            have hev : wv.heap[w.heap.size]? = some (.cells #[Value.string k, Value.string v, Value.bool d, Value.int IntKind.i64 q] 29) := (hbv.block _ (heap_lt HBY.out)).trans HBY.out
            have HMV : Hid (wv.heap[g]? = some (.cells (memC v9 q A.ch) 57 (0, 0))) := (hbv.block _ (heap_lt HMY.out)).trans HMY.out
            have HOV : Hid (Only own w wv) := (HOY.out.drewN 1).trans (Only.of_below (own := own) hbv) (fun _ e => .inl e)
            have HRV : Hid (wv.ownsRow 0 29 4 v9 A9.es.length (flatE A9.es)) := row_block HRY.out (fun k hk => hbv.block k (HRY.out.lt k hk).2)
            refine hK.out _ _ (four_cells hev) (fun hHeld2 => ?_)
            clear hK K hbv HOY HRY HMY HBY hy0
            obtain ⟨D, HD⟩ : ∃ D, Hid (D = (cellsOf (linkB A.ch ⟨k, v, d, q⟩)).toArray) := ⟨_, rfl⟩
            have hDs : D.size = 32 := by rw [HD.out, List.size_toArray, cellsOf_length, linkB_len]
            have hD1 : D.all (·.oneCell') = true := by rw [HD.out]; exact dig_one _
            have HTH : Hid (wv.there g 2 D.size) := by show World.there _ _ _ _; rw [hDs]; exact memC_there HMV.out HCL.out
            rw [← HD.out]
            refine wpAnyH_take (i := 7) (v := ?_) rfl (by kernel_rfl) (by kernel_rfl) (by kernel_rfl) (fun _ _ _ h => h) (Or.inl ⟨by rfl, ?_⟩) (by assumption) ?_
            rotate_left
            · (intro w hSw; (try dsimp only at hSw); go_simp; try with_reducible rfl)
            simp only [Act.put, List.getElem_toArray, List.getElem_cons_zero, List.getElem_cons_succ, List.setIfInBounds_toArray, List.set_cons_zero, List.set_cons_succ]
            refine wpAnyH_take (i := 8) (v := ?_) rfl (by kernel_rfl) (by kernel_rfl) (by kernel_rfl) (fun _ _ _ h => h) (Or.inl ⟨by rfl, ?_⟩) (by assumption) ?_
            rotate_left
            · (intro w hSw; (try dsimp only at hSw); go_simp; try with_reducible rfl)
            simp only [Act.put, List.getElem_toArray, List.getElem_cons_zero, List.getElem_cons_succ, List.setIfInBounds_toArray, List.set_cons_zero, List.set_cons_succ]
            refine wpAnyH_ready (rs := [9]) (by kernel_rfl) (by simp) ?_
            refine AllReadyH.cons rfl (fun K hK => ?_) AllReadyH.nil
            rw [if_pos (by rfl)]
            refine wp_store_mid 42 (.tmp 66) (.tmp 64) rfl g 2 D rfl rfl HTH.out (by rw [size42, hDs]) hD1 ?_
            rw [HD.out, memC_chain HMV.out HCL.out (linkB_len _ _)]
            refine hK.out _ _ (four_cells ((setRow_other wv g w.heap.size _ (by omega)).trans hev)) (fun hHeld2 => ?_)
            clear hK K
            refine wpAnyH_done (by kernel_rfl) ?_ _
            clear hDs hD1 HTH hev HD
            go_wp2_with fail
            go_ret
            refine ⟨by rw [hn9]; rfl, ⟨HWF, v9, .inl HOG.out, ?_, row_block HRV.out (fun k hk => setRow_other wv g k _ (fun e => HNG.out (by rw [← e]; exact hk))), HRO.out⟩, HOV.out.setRow (.inl HOG.out) _⟩
            rw [hA9l, hA9c]
            exact setRow_heap _ _ _ _ _ _ HMV.out
end Go.Proofs.YtaamekkbgaeafaaDoor
