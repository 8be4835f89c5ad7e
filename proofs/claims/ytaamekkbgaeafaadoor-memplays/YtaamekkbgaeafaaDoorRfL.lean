/-
  The document's link of a chain.
-/
import Derived.Test.YtaamekkbgaeafaaDoorRfM
import Derived.Deep.RegionHeld3
namespace Go.Proofs.YtaamekkbgaeafaaDoor
open Go.RowKit
set_option linter.unusedSectionVars false
set_option linter.unusedVariables false
variable [Inhabited E] [DecidableEq E]
theorem frame3 (w : World) (o1 o2 o3 : Obj) : (((w.alloc o1).alloc o2).alloc o3).heap[w.heap.size]? = some o1 ∧ (((w.alloc o1).alloc o2).alloc o3).heap[w.heap.size + 1]? = some o2 ∧ (((w.alloc o1).alloc o2).alloc o3).heap[w.heap.size + 1 + 1]? = some o3 := by
  have s1 : (w.alloc o1).heap.size = w.heap.size + 1 := by simp
  have s2 : ((w.alloc o1).alloc o2).heap.size = w.heap.size + 1 + 1 := by simp
  have n0 := heap_alloc_new w o1
  have n1 := heap_alloc_new (w.alloc o1) o2
  have n2 := heap_alloc_new ((w.alloc o1).alloc o2) o3
  have hb1 := bel_alloc (w.alloc o1) o2
  have hb2 := bel_alloc ((w.alloc o1).alloc o2) o3
  rw [s1] at n1 hb1
  rw [s2] at n2 hb2
  exact ⟨(hb2.block _ (by omega)).trans ((hb1.block _ (by omega)).trans n0), (hb2.block _ (by omega)).trans n1, n2⟩
theorem two_bytes (w : World) : Bytes (w.alloc (Obj.cells #[Value.int IntKind.u8 2] 5)) (some ⟨w.heap.size, 0, none⟩) 1 [2] := by
  refine ⟨rfl, fun j c hj => ⟨_, rfl, ?_⟩⟩
  rw [Addr.add_lit, Nat.zero_add, cell_of_row _ _ _ _ _ _ (heap_alloc_new w _)]
  cases j with
  | zero => simp at hj; subst hj; rfl
  | succ j => simp at hj
theorem two_str (w : World) : (convert 52 9 (.slice (some ⟨w.heap.size, 0, none⟩) 1 1)).run Tryd.prog (w.alloc (Obj.cells #[Value.int IntKind.u8 2] 5)) = .ok (.string ⟨#[2]⟩) (w.alloc (Obj.cells #[Value.int IntKind.u8 2] 5)) := str_bytes 1 (two_bytes w)
theorem two_later (w y : World) (h : Below (w.alloc (Obj.cells #[Value.int IntKind.u8 2] 5)).heap.size (w.alloc (Obj.cells #[Value.int IntKind.u8 2] 5)) y) : (convert 52 9 (.slice (some ⟨w.heap.size, 0, none⟩) 1 1)).run Tryd.prog y = .ok (.string ⟨#[2]⟩) y := str_bytes 1 (bytes_kept (two_bytes w) h (Nat.le_refl _))
theorem far_four {w : World} {a g : Nat} {cs : Array Value} {x0 x1 x2 x3 : Value} (hne : a ≠ g) (h : w.cell? ⟨a, 0, none⟩ = some x0 ∧ w.cell? ⟨a, 1, none⟩ = some x1 ∧ w.cell? ⟨a, 2, none⟩ = some x2 ∧ w.cell? ⟨a, 3, none⟩ = some x3) :
    (w.setRow g cs).cell? ⟨a, 0, none⟩ = some x0 ∧ (w.setRow g cs).cell? ⟨a, 1, none⟩ = some x1 ∧ (w.setRow g cs).cell? ⟨a, 2, none⟩ = some x2 ∧ (w.setRow g cs).cell? ⟨a, 3, none⟩ = some x3 := by
  have hb := setRow_other w g a cs hne
  exact ⟨(World.cell?_of_block (a := ⟨a, 0, none⟩) hb).trans h.1, (World.cell?_of_block (a := ⟨a, 1, none⟩) hb).trans h.2.1, (World.cell?_of_block (a := ⟨a, 2, none⟩) hb).trans h.2.2.1, (World.cell?_of_block (a := ⟨a, 3, none⟩) hb).trans h.2.2.2⟩
theorem link_size (ch : List UInt8) (e : E) (hl : ch.length = 32) : (2 :: (ch ++ bytesB e)).length ≤ 2000 := by
  have : (bytesB e).length ≤ 1300 := by
    cases hr : rightB e with
    | false => rw [bytesB, hr]; simp
    | true =>
      obtain ⟨h1, h2, qn, h3, h4, h5⟩ := right_parts hr
      have k1 := putB_le (strB e.key).length
      have k2 := putB_le (strB e.value).length
      have k3 := putB_le e.seq.toNat
      have k4 := strB_length e.key
      have k5 := strB_length e.value
      rw [bytesB, hr]
      simp only [if_true, headB, textB]
      split <;> simp only [List.length_cons, List.length_append] <;> omega
  simp [hl]; omega
set_option maxRecDepth 100000 in
set_option maxHeartbeats 4000000 in
theorem link_any (ch : List UInt8) (k v : ByteArray) (d : Bool) (q : Int) (w : World) (hl : ch.length = 32) (hk : k.size ≤ 9223372036854775807) (hv : v.size ≤ 9223372036854775807) :
    Calls Tryd.prog 37 #[.agg (cellsOf ch).toArray, .agg #[Value.string k, Value.string v, Value.bool d, Value.int IntKind.i64 q]] w fun e w' => e = .returned (.agg (cellsOf (linkB ch ⟨k, v, d, q⟩)).toArray) ∧ Below w.heap.size w w' := by
  obtain ⟨D, HD⟩ : ∃ D, Hid (D = (cellsOf (linkB ch ⟨k, v, d, q⟩)).toArray) := ⟨_, rfl⟩
  have hDs : D.size = 32 := by rw [HD.out, List.size_toArray, cellsOf_length, linkB_len]
  have hD1 : D.all (·.oneCell') = true := by rw [HD.out]; exact dig_one _
  rw [← HD.out]
  obtain ⟨C, HC⟩ : ∃ C, Hid (C = (cellsOf ch).toArray) := ⟨_, rfl⟩
  rw [← HC.out]
  have hCs : C.size = 32 := by rw [HC.out, List.size_toArray, cellsOf_length, hl]
  obtain ⟨bb, HBB⟩ : ∃ bb, Hid ((⟨(bytesB ⟨k, v, d, q⟩).toArray⟩ : ByteArray) = bb) := ⟨_, rfl⟩
  obtain ⟨cs, HCS⟩ : ∃ cs, Hid ((⟨ch.toArray⟩ : ByteArray) = cs) := ⟨_, rfl⟩
  obtain ⟨tx, HSTR⟩ : ∃ tx, Hid ((⟨#[2]⟩ : ByteArray) ++ cs ++ bb = tx) := ⟨_, rfl⟩
  have htx : strB tx = 2 :: (ch ++ bytesB ⟨k, v, d, q⟩) := by
    rw [← HSTR.out, ← HCS.out, ← HBB.out]
    simp [strB]
  have strsz : tx.size ≤ 2000 := by
    rw [← strB_length, htx]
    have := link_size ch ⟨k, v, d, q⟩ hl
    exact this
  have HSTR2 : Hid ((Sm.cellsOf (Sm.shaB (Sm.strB tx))).toArray = D) := by
    show _ = _
    rw [HD.out]
    show (cellsOf (Sm.shaB (strB tx))).toArray = _
    rw [htx]; rfl
  obtain ⟨ZZ, HZ⟩ : ∃ ZZ : Array Value, Hid (ZZ = #[Value.int IntKind.u8 0, Value.int IntKind.u8 0, Value.int IntKind.u8 0, Value.int IntKind.u8 0, Value.int IntKind.u8 0, Value.int IntKind.u8 0, Value.int IntKind.u8 0, Value.int IntKind.u8 0, Value.int IntKind.u8 0, Value.int IntKind.u8 0, Value.int IntKind.u8 0, Value.int IntKind.u8 0, Value.int IntKind.u8 0, Value.int IntKind.u8 0, Value.int IntKind.u8 0, Value.int IntKind.u8 0, Value.int IntKind.u8 0, Value.int IntKind.u8 0, Value.int IntKind.u8 0, Value.int IntKind.u8 0, Value.int IntKind.u8 0, Value.int IntKind.u8 0, Value.int IntKind.u8 0, Value.int IntKind.u8 0, Value.int IntKind.u8 0, Value.int IntKind.u8 0, Value.int IntKind.u8 0, Value.int IntKind.u8 0, Value.int IntKind.u8 0, Value.int IntKind.u8 0, Value.int IntKind.u8 0, Value.int IntKind.u8 0]) := ⟨_, rfl⟩
  have hZ : ZZ.size = 32 := by rw [HZ.out]; rfl
  go_enter Tryd.func37, Tryd.ntmps37
  go_wp2_with fail
  obtain ⟨W, hW⟩ : ∃ W, W = ((w.alloc (Obj.cells C 42)).alloc (Obj.cells #[Value.string k, Value.string v, Value.bool d, Value.int IntKind.i64 q] 29)).alloc (Obj.cells #[Value.int IntKind.u8 0, Value.int IntKind.u8 0, Value.int IntKind.u8 0, Value.int IntKind.u8 0, Value.int IntKind.u8 0, Value.int IntKind.u8 0, Value.int IntKind.u8 0, Value.int IntKind.u8 0, Value.int IntKind.u8 0, Value.int IntKind.u8 0, Value.int IntKind.u8 0, Value.int IntKind.u8 0, Value.int IntKind.u8 0, Value.int IntKind.u8 0, Value.int IntKind.u8 0, Value.int IntKind.u8 0, Value.int IntKind.u8 0, Value.int IntKind.u8 0, Value.int IntKind.u8 0, Value.int IntKind.u8 0, Value.int IntKind.u8 0, Value.int IntKind.u8 0, Value.int IntKind.u8 0, Value.int IntKind.u8 0, Value.int IntKind.u8 0, Value.int IntKind.u8 0, Value.int IntKind.u8 0, Value.int IntKind.u8 0, Value.int IntKind.u8 0, Value.int IntKind.u8 0, Value.int IntKind.u8 0, Value.int IntKind.u8 0] 42) := ⟨_, rfl⟩
  rw [← hW]
  have hWs : W.heap.size = w.heap.size + 3 := by rw [hW]; simp
  have HBW : Hid (Below w.heap.size w W) := by show Below _ _ _; rw [hW]; exact (bel_alloc w _).trans (((bel_alloc _ _).mono (by simp)).trans ((bel_alloc _ _).mono (by simp; omega)))
  obtain ⟨p0, p1, p2⟩ := frame3 w (Obj.cells C 42) (Obj.cells #[Value.string k, Value.string v, Value.bool d, Value.int IntKind.i64 q] 29) (Obj.cells #[Value.int IntKind.u8 0, Value.int IntKind.u8 0, Value.int IntKind.u8 0, Value.int IntKind.u8 0, Value.int IntKind.u8 0, Value.int IntKind.u8 0, Value.int IntKind.u8 0, Value.int IntKind.u8 0, Value.int IntKind.u8 0, Value.int IntKind.u8 0, Value.int IntKind.u8 0, Value.int IntKind.u8 0, Value.int IntKind.u8 0, Value.int IntKind.u8 0, Value.int IntKind.u8 0, Value.int IntKind.u8 0, Value.int IntKind.u8 0, Value.int IntKind.u8 0, Value.int IntKind.u8 0, Value.int IntKind.u8 0, Value.int IntKind.u8 0, Value.int IntKind.u8 0, Value.int IntKind.u8 0, Value.int IntKind.u8 0, Value.int IntKind.u8 0, Value.int IntKind.u8 0, Value.int IntKind.u8 0, Value.int IntKind.u8 0, Value.int IntKind.u8 0, Value.int IntKind.u8 0, Value.int IntKind.u8 0, Value.int IntKind.u8 0] 42)
  have b0 : W.heap[w.heap.size]? = some (.cells C 42) := by rw [hW]; exact p0
  have b1 : W.heap[w.heap.size + 1]? = some (.cells #[Value.string k, Value.string v, Value.bool d, Value.int IntKind.i64 q] 29) := by rw [hW]; exact p1
  have HZR : Hid (W.heap[w.heap.size + 1 + 1]? = some (.cells ZZ 42)) := by show _ = _; rw [hW, HZ.out]; exact p2
  have HS : Hid (∀ W', Below W.heap.size W W' → (fun w' => w'.heap[w.heap.size]? = some (.cells C 42) ∧ (w'.cell? ⟨w.heap.size + 1, 0, none⟩ = some (.string k) ∧ w'.cell? ⟨w.heap.size + 1, 1, none⟩ = some (.string v) ∧ w'.cell? ⟨w.heap.size + 1, 2, none⟩ = some (.bool d) ∧ w'.cell? ⟨w.heap.size + 1, 3, none⟩ = some (.int .i64 q))) W') := fun W' hb => ⟨(hb.block _ (by omega)).trans b0, four_cells ((hb.block _ (by omega)).trans b1)⟩
  have HBY : Hid (∀ w', (fun w' => w'.heap[w.heap.size]? = some (.cells C 42) ∧ (w'.cell? ⟨w.heap.size + 1, 0, none⟩ = some (.string k) ∧ w'.cell? ⟨w.heap.size + 1, 1, none⟩ = some (.string v) ∧ w'.cell? ⟨w.heap.size + 1, 2, none⟩ = some (.bool d) ∧ w'.cell? ⟨w.heap.size + 1, 3, none⟩ = some (.int .i64 q))) w' → (convert 52 9 (.slice (some ⟨w.heap.size, 0, none⟩) 32 32)).run Tryd.prog w' = .ok (.string cs) w') := fun w' h => by
    rw [← HCS.out]
    refine str_bytes 32 ⟨hl, fun i c hi => ⟨_, rfl, ?_⟩⟩
    rw [Addr.add_lit, Nat.zero_add, cell_of_row _ _ _ _ _ _ h.1, HC.out]
    simp [cellsOf, hi]
  have hcz : cs.size = 32 := by rw [← HCS.out]; simp [ByteArray.size, hl]
  have hbz : bb.size ≤ 2000 := by rw [← HBB.out]; have := link_size ch ⟨k, v, d, q⟩ hl; simp [hl] at this; simp [ByteArray.size]; omega
  have hn1 : ¬ (9223372036854775807 < 1 + cs.size) := by omega
  have hn2 : ¬ (9223372036854775807 < 1 + cs.size + bb.size) := by omega
  have hn3 : ¬ (9223372036854775807 < ((⟨#[2]⟩ : ByteArray) ++ cs).size + bb.size) := by rw [ByteArray.size_append]; have : (⟨#[2]⟩ : ByteArray).size = 1 := rfl; omega
  clear hcz hbz
  have HWS : Hid (W.heap.size = w.heap.size + 3) := hWs
  clear hW b0 b1 p0 p1 p2 htx HD HC HCS hWs
  refine wp_region_held_drew (S := fun w' => w'.heap[w.heap.size]? = some (.cells C 42) ∧ (w'.cell? ⟨w.heap.size + 1, 0, none⟩ = some (.string k) ∧ w'.cell? ⟨w.heap.size + 1, 1, none⟩ = some (.string v) ∧ w'.cell? ⟨w.heap.size + 1, 2, none⟩ = some (.bool d) ∧ w'.cell? ⟨w.heap.size + 1, 3, none⟩ = some (.int .i64 q))) (by kernel_rfl) (HS.out _ (Below.drew (Below.refl _ _))) (fun hS => ?_)
  refine wpAnyH_take (i := 2) (v := ?_) rfl (by kernel_rfl) (by kernel_rfl) (by kernel_rfl) (fun _ _ _ h => h) (Or.inl ⟨by rfl, ?_⟩) (by assumption) ?_
  rotate_left
  · (intro w hSw; (try dsimp only at hSw); go_simp; try with_reducible rfl)
  simp only [Act.put, List.getElem_toArray, List.getElem_cons_zero, List.getElem_cons_succ, List.setIfInBounds_toArray, List.set_cons_zero, List.set_cons_succ]
  refine wpAnyH_take (i := 3) (v := .string cs) rfl (by kernel_rfl) (by kernel_rfl) (by kernel_rfl) (fun _ _ _ h => h) (Or.inl ⟨by rfl, ?_⟩) (by assumption) ?_
  · (intro w hSw; have hcv := HBY.out w hSw; go_simp)
  simp only [Act.put, List.getElem_toArray, List.getElem_cons_zero, List.getElem_cons_succ, List.setIfInBounds_toArray, List.set_cons_zero, List.set_cons_succ]
  refine wpAnyH_take (i := 5) (v := ?_) rfl (by kernel_rfl) (by kernel_rfl) (by kernel_rfl) (fun _ _ _ h => h) (Or.inl ⟨by rfl, ?_⟩) (by assumption) ?_
  rotate_left
  · (intro w hSw; (try dsimp only at hSw); go_simp; try with_reducible rfl)
  simp only [Act.put, List.getElem_toArray, List.getElem_cons_zero, List.getElem_cons_succ, List.setIfInBounds_toArray, List.set_cons_zero, List.set_cons_succ]
  refine wpAnyH_ready (rs := [0, 6]) (by kernel_rfl) (by simp) ?_
  refine AllReadyH.cons rfl (fun K hK => ?_) (AllReadyH.cons rfl (fun K hK => ?_) AllReadyH.nil)
  · go_simp
    obtain ⟨y1, HWy1⟩ : ∃ WN, Hid ((W.alloc (Obj.cells #[Value.int IntKind.u8 2] 5)).drew = WN) := ⟨_, rfl⟩
    have HCy1 : Hid (Below W.heap.size W y1) := by show Below _ _ _; rw [← HWy1.out]; exact Below.drew (bel_alloc W _)
    have hcvy1 : (convert 52 9 (.slice (some ⟨W.heap.size, 0, none⟩) 1 1)).run Tryd.prog y1 = .ok (.string ⟨#[2]⟩) y1 := by rw [← HWy1.out]; exact two_later W _ (Below.drew (Below.refl _ _))
    rw [HWy1.out]
    refine hK.out _ _ (HS.out _ HCy1.out) (fun hHeld2 => ?_)
    clear hK K
    try simp only [Act.put, List.getElem_toArray, List.getElem_cons_zero, List.getElem_cons_succ, List.setIfInBounds_toArray, List.set_cons_zero, List.set_cons_succ]
    refine wpAnyH_ready (rs := [1, 6]) (by kernel_rfl) (by simp) ?_
    refine AllReadyH.cons rfl (fun K hK => ?_) (AllReadyH.cons rfl (fun K hK => ?_) AllReadyH.nil)
    · go_simp
      refine hK.out _ _ (HS.out _ HCy1.out) (fun hHeld2 => ?_)
      clear hK K
      try simp only [Act.put, List.getElem_toArray, List.getElem_cons_zero, List.getElem_cons_succ, List.setIfInBounds_toArray, List.set_cons_zero, List.set_cons_succ]
      refine wpAnyH_take (i := 4) (v := ?_) rfl (by kernel_rfl) (by kernel_rfl) (by kernel_rfl) (fun _ _ _ h => h) (Or.inl ⟨by rfl, ?_⟩) (by assumption) ?_
      rotate_left
      · (intro w hSw; (try dsimp only at hSw); go_simp; try with_reducible rfl)
      simp only [Act.put, List.getElem_toArray, List.getElem_cons_zero, List.getElem_cons_succ, List.setIfInBounds_toArray, List.set_cons_zero, List.set_cons_succ]
      refine wpAnyH_ready (rs := [6]) (by kernel_rfl) (by simp) ?_
      refine AllReadyH.cons rfl (fun K hK => ?_) AllReadyH.nil
      go_simp
      refine (refBytes_any k v d q y1 hk hv).mono ?_
      rintro e y2 ⟨rfl, hy2⟩
      rw [HBB.out]
      have HCy2 : Hid (Below W.heap.size W y2) := HCy1.out.trans (hy2.mono HCy1.out.size)
      go_wp2_with fail
      refine hK.out _ _ (HS.out _ HCy2.out) (fun hHeld2 => ?_)
      clear hK K
      try simp only [Act.put, List.getElem_toArray, List.getElem_cons_zero, List.getElem_cons_succ, List.setIfInBounds_toArray, List.set_cons_zero, List.set_cons_succ]
      refine wpAnyH_take (i := 7) (v := ?_) rfl (by kernel_rfl) (by kernel_rfl) (by kernel_rfl) (fun _ _ _ h => h) (Or.inl ⟨by rfl, ?_⟩) (by assumption) ?_
      rotate_left
      · (intro w hSw; (try dsimp only at hSw); go_simp; try with_reducible rfl)
      simp only [Act.put, List.getElem_toArray, List.getElem_cons_zero, List.getElem_cons_succ, List.setIfInBounds_toArray, List.set_cons_zero, List.set_cons_succ]
      refine wpAnyH_ready (rs := [8]) (by kernel_rfl) (by simp) ?_
      refine AllReadyH.cons rfl (fun K hK => ?_) AllReadyH.nil
      go_simp
      rw [HSTR.out]
      refine (Sm.refOf_any tx y2 strsz).mono ?_
      rintro e yz ⟨rfl, hyz⟩
      rw [show (Sm.cellsOf (Sm.shaB (Sm.strB tx))).toArray = D from HSTR2.out]
      go_wp2_with fail
      have hres : yz.heap[w.heap.size + 1 + 1]? = some (.cells ZZ 42) := (hyz.block _ (by have := HCy2.out.size; have := HWS.out; omega)).trans ((HCy2.out.block _ (by have := HWS.out; omega)).trans HZR.out)
      have HCz : Hid (Below W.heap.size W yz) := HCy2.out.trans (hyz.mono HCy2.out.size)
      refine hK.out _ _ (HS.out _ HCz.out) (fun hHeld2 => ?_)
      clear hK K hyz
      refine wpAnyH_ready (rs := [9]) (by kernel_rfl) (by simp) ?_
      refine AllReadyH.cons rfl (fun K hK => ?_) AllReadyH.nil
      rw [if_pos (by rfl)]
      refine wp_store_row 42 (.tmp 4) (.tmp 13) rfl (w.heap.size + 1 + 1) D rfl rfl 42 _ hres (by rw [size42, hDs]) (by rw [hZ, hDs]) hD1 ?_
      refine hK.out _ _ ⟨(setRow_other yz _ _ _ (by omega)).trans (HS.out _ HCz.out).1, far_four (by omega) (HS.out _ HCz.out).2⟩ (fun hHeld2 => ?_)
      clear hK K
      refine wpAnyH_done (by kernel_rfl) ?_ _
      clear HSTR HSTR2 HBY hS
      go_wp2_with fail
      refine bodyPost_ret (results_cell_row rfl _ _ (w.heap.size + 1 + 1) 42 D (0, 0) _ rfl (setRow_heap _ _ _ _ _ _ hres) Tryd.underlying42 rfl (by rw [size42, hDs])) rfl ?_
      exact ⟨rfl, below_setRow (HBW.out.trans (HCz.out.mono (by have := HWS.out; omega))) (by omega) _⟩
    · go_simp
      refine (refBytes_any k v d q y1 hk hv).mono ?_
      rintro e y2 ⟨rfl, hy2⟩
      rw [HBB.out]
      have HCy2 : Hid (Below W.heap.size W y2) := HCy1.out.trans (hy2.mono HCy1.out.size)
      go_wp2_with fail
      refine hK.out _ _ (HS.out _ HCy2.out) (fun hHeld2 => ?_)
      clear hK K
      try simp only [Act.put, List.getElem_toArray, List.getElem_cons_zero, List.getElem_cons_succ, List.setIfInBounds_toArray, List.set_cons_zero, List.set_cons_succ]
      have hcvy2 : (convert 52 9 (.slice (some ⟨W.heap.size, 0, none⟩) 1 1)).run Tryd.prog y2 = .ok (.string ⟨#[2]⟩) y2 := two_later W y2 ((show Below _ _ y1 by rw [← HWy1.out]; exact Below.drew (Below.refl _ _)).trans (hy2.mono (by rw [← HWy1.out]; exact Nat.le_refl _)))
      clear hcvy1
      refine wpAnyH_ready (rs := [1]) (by kernel_rfl) (by simp) ?_
      refine AllReadyH.cons rfl (fun K hK => ?_) AllReadyH.nil
      go_simp
      refine hK.out _ _ (HS.out _ HCy2.out) (fun hHeld2 => ?_)
      clear hK K
      try simp only [Act.put, List.getElem_toArray, List.getElem_cons_zero, List.getElem_cons_succ, List.setIfInBounds_toArray, List.set_cons_zero, List.set_cons_succ]
      refine wpAnyH_take (i := 4) (v := ?_) rfl (by kernel_rfl) (by kernel_rfl) (by kernel_rfl) (fun _ _ _ h => h) (Or.inl ⟨by rfl, ?_⟩) (by assumption) ?_
      rotate_left
      · (intro w hSw; (try dsimp only at hSw); go_simp; try with_reducible rfl)
      simp only [Act.put, List.getElem_toArray, List.getElem_cons_zero, List.getElem_cons_succ, List.setIfInBounds_toArray, List.set_cons_zero, List.set_cons_succ]
      refine wpAnyH_take (i := 7) (v := ?_) rfl (by kernel_rfl) (by kernel_rfl) (by kernel_rfl) (fun _ _ _ h => h) (Or.inl ⟨by rfl, ?_⟩) (by assumption) ?_
      rotate_left
      · (intro w hSw; (try dsimp only at hSw); go_simp; try with_reducible rfl)
      simp only [Act.put, List.getElem_toArray, List.getElem_cons_zero, List.getElem_cons_succ, List.setIfInBounds_toArray, List.set_cons_zero, List.set_cons_succ]
      refine wpAnyH_ready (rs := [8]) (by kernel_rfl) (by simp) ?_
      refine AllReadyH.cons rfl (fun K hK => ?_) AllReadyH.nil
      go_simp
      rw [HSTR.out]
      refine (Sm.refOf_any tx y2 strsz).mono ?_
      rintro e yz ⟨rfl, hyz⟩
      rw [show (Sm.cellsOf (Sm.shaB (Sm.strB tx))).toArray = D from HSTR2.out]
      go_wp2_with fail
      have hres : yz.heap[w.heap.size + 1 + 1]? = some (.cells ZZ 42) := (hyz.block _ (by have := HCy2.out.size; have := HWS.out; omega)).trans ((HCy2.out.block _ (by have := HWS.out; omega)).trans HZR.out)
      have HCz : Hid (Below W.heap.size W yz) := HCy2.out.trans (hyz.mono HCy2.out.size)
      refine hK.out _ _ (HS.out _ HCz.out) (fun hHeld2 => ?_)
      clear hK K hyz
      refine wpAnyH_ready (rs := [9]) (by kernel_rfl) (by simp) ?_
      refine AllReadyH.cons rfl (fun K hK => ?_) AllReadyH.nil
      rw [if_pos (by rfl)]
      refine wp_store_row 42 (.tmp 4) (.tmp 13) rfl (w.heap.size + 1 + 1) D rfl rfl 42 _ hres (by rw [size42, hDs]) (by rw [hZ, hDs]) hD1 ?_
      refine hK.out _ _ ⟨(setRow_other yz _ _ _ (by omega)).trans (HS.out _ HCz.out).1, far_four (by omega) (HS.out _ HCz.out).2⟩ (fun hHeld2 => ?_)
      clear hK K
      refine wpAnyH_done (by kernel_rfl) ?_ _
      clear HSTR HSTR2 HBY hS
      go_wp2_with fail
      refine bodyPost_ret (results_cell_row rfl _ _ (w.heap.size + 1 + 1) 42 D (0, 0) _ rfl (setRow_heap _ _ _ _ _ _ hres) Tryd.underlying42 rfl (by rw [size42, hDs])) rfl ?_
      exact ⟨rfl, below_setRow (HBW.out.trans (HCz.out.mono (by have := HWS.out; omega))) (by omega) _⟩
  · go_simp
    refine (refBytes_any k v d q W.drew hk hv).mono ?_
    rintro e y1 ⟨rfl, hy1⟩
    rw [HBB.out]
    have HCy1 : Hid (Below W.heap.size W y1) := (Below.drew (Below.refl W.heap.size W)).trans (hy1.mono (Below.drew (Below.refl W.heap.size W)).size)
    go_wp2_with fail
    refine hK.out _ _ (HS.out _ HCy1.out) (fun hHeld2 => ?_)
    clear hK K
    try simp only [Act.put, List.getElem_toArray, List.getElem_cons_zero, List.getElem_cons_succ, List.setIfInBounds_toArray, List.set_cons_zero, List.set_cons_succ]
    refine wpAnyH_ready (rs := [0]) (by kernel_rfl) (by simp) ?_
    refine AllReadyH.cons rfl (fun K hK => ?_) AllReadyH.nil
    go_simp
    obtain ⟨y2, HWy2⟩ : ∃ WN, Hid (y1.alloc (Obj.cells #[Value.int IntKind.u8 2] 5) = WN) := ⟨_, rfl⟩
    have HCy2 : Hid (Below W.heap.size W y2) := by show Below _ _ _; rw [← HWy2.out]; exact HCy1.out.trans ((bel_alloc y1 _).mono HCy1.out.size)
    have hcvy2 : (convert 52 9 (.slice (some ⟨y1.heap.size, 0, none⟩) 1 1)).run Tryd.prog y2 = .ok (.string ⟨#[2]⟩) y2 := by rw [← HWy2.out]; exact two_str y1
    rw [HWy2.out]
    refine hK.out _ _ (HS.out _ HCy2.out) (fun hHeld2 => ?_)
    clear hK K
    try simp only [Act.put, List.getElem_toArray, List.getElem_cons_zero, List.getElem_cons_succ, List.setIfInBounds_toArray, List.set_cons_zero, List.set_cons_succ]
    refine wpAnyH_ready (rs := [1]) (by kernel_rfl) (by simp) ?_
    refine AllReadyH.cons rfl (fun K hK => ?_) AllReadyH.nil
    go_simp
    refine hK.out _ _ (HS.out _ HCy2.out) (fun hHeld2 => ?_)
    clear hK K
    try simp only [Act.put, List.getElem_toArray, List.getElem_cons_zero, List.getElem_cons_succ, List.setIfInBounds_toArray, List.set_cons_zero, List.set_cons_succ]
    refine wpAnyH_take (i := 4) (v := ?_) rfl (by kernel_rfl) (by kernel_rfl) (by kernel_rfl) (fun _ _ _ h => h) (Or.inl ⟨by rfl, ?_⟩) (by assumption) ?_
    rotate_left
    · (intro w hSw; (try dsimp only at hSw); go_simp; try with_reducible rfl)
    simp only [Act.put, List.getElem_toArray, List.getElem_cons_zero, List.getElem_cons_succ, List.setIfInBounds_toArray, List.set_cons_zero, List.set_cons_succ]
    refine wpAnyH_take (i := 7) (v := ?_) rfl (by kernel_rfl) (by kernel_rfl) (by kernel_rfl) (fun _ _ _ h => h) (Or.inl ⟨by rfl, ?_⟩) (by assumption) ?_
    rotate_left
    · (intro w hSw; (try dsimp only at hSw); go_simp; try with_reducible rfl)
    simp only [Act.put, List.getElem_toArray, List.getElem_cons_zero, List.getElem_cons_succ, List.setIfInBounds_toArray, List.set_cons_zero, List.set_cons_succ]
    refine wpAnyH_ready (rs := [8]) (by kernel_rfl) (by simp) ?_
    refine AllReadyH.cons rfl (fun K hK => ?_) AllReadyH.nil
    go_simp
    rw [HSTR.out]
    refine (Sm.refOf_any tx y2 strsz).mono ?_
    rintro e yz ⟨rfl, hyz⟩
    rw [show (Sm.cellsOf (Sm.shaB (Sm.strB tx))).toArray = D from HSTR2.out]
    go_wp2_with fail
    have hres : yz.heap[w.heap.size + 1 + 1]? = some (.cells ZZ 42) := (hyz.block _ (by have := HCy2.out.size; have := HWS.out; omega)).trans ((HCy2.out.block _ (by have := HWS.out; omega)).trans HZR.out)
    have HCz : Hid (Below W.heap.size W yz) := HCy2.out.trans (hyz.mono HCy2.out.size)
    refine hK.out _ _ (HS.out _ HCz.out) (fun hHeld2 => ?_)
    clear hK K hyz
    refine wpAnyH_ready (rs := [9]) (by kernel_rfl) (by simp) ?_
    refine AllReadyH.cons rfl (fun K hK => ?_) AllReadyH.nil
    rw [if_pos (by rfl)]
    refine wp_store_row 42 (.tmp 4) (.tmp 13) rfl (w.heap.size + 1 + 1) D rfl rfl 42 _ hres (by rw [size42, hDs]) (by rw [hZ, hDs]) hD1 ?_
    refine hK.out _ _ ⟨(setRow_other yz _ _ _ (by omega)).trans (HS.out _ HCz.out).1, far_four (by omega) (HS.out _ HCz.out).2⟩ (fun hHeld2 => ?_)
    clear hK K
    refine wpAnyH_done (by kernel_rfl) ?_ _
    clear HSTR HSTR2 HBY hS
    go_wp2_with fail
    refine bodyPost_ret (results_cell_row rfl _ _ (w.heap.size + 1 + 1) 42 D (0, 0) _ rfl (setRow_heap _ _ _ _ _ _ hres) Tryd.underlying42 rfl (by rw [size42, hDs])) rfl ?_
    exact ⟨rfl, below_setRow (HBW.out.trans (HCz.out.mono (by have := HWS.out; omega))) (by omega) _⟩
end Go.Proofs.YtaamekkbgaeafaaDoor
