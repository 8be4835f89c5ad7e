/-
  A right entry is read as it was written: what the law EntryBack answers, for any arguments.
-/
import Derived.Test.YteemfhhhdhddhaaOnceM
import Derived.Deep.DeepCutAuto
namespace Go.Proofs.Yteemfhhhdhddhaa
open Go.RowKit Go.Sort Go.Shelf
set_option linter.unusedSectionVars false
variable [Inhabited E] [DecidableEq E]
set_option maxRecDepth 100000 in
set_option maxHeartbeats 8000000 in
theorem back_walk (k v : ByteArray) (d : Bool) (q : Int) (ao : Option Addr) (n c : Nat) (bs : List UInt8) (w : World) (hk : k.size ≤ 9223372036854775807) (hv : v.size ≤ 9223372036854775807) (hb : Bytes w ao n bs) (h0 : ao = none → c = 0) (hnc : n ≤ c) (hc : c ≤ 9223372036854775807) :
    Calls Try.prog 5 #[.agg #[.string k, .string v, .bool d, .int .i64 q], .slice ao n c] w fun e w' => e = .returned (.bool true) ∧ Below w.heap.size w w' := by
  have HBY : Hid _ := hb
  clear hb
  go_enter Try.func5, Try.ntmps5
  go_wp2_with fail
  refine (shown_any _).mono ?_
  rintro e w1 ⟨rfl, hb1⟩
  have hblk1 : w1.heap[w.heap.size]? = some (Obj.cells #[.string k, .string v, .bool d, .int .i64 q] 23) := by rw [hb1.block _ (by simp), heap_alloc_get, if_pos rfl]
  have b0 : w1.cell? ⟨w.heap.size, 0, none⟩ = some (.string k) := by rw [cell_of_row _ _ _ _ _ _ hblk1]; rfl
  have b1 : w1.cell? ⟨w.heap.size, 1, none⟩ = some (.string v) := by rw [cell_of_row _ _ _ _ _ _ hblk1]; rfl
  have b2 : w1.cell? ⟨w.heap.size, 2, none⟩ = some (.bool d) := by rw [cell_of_row _ _ _ _ _ _ hblk1]; rfl
  have b3 : w1.cell? ⟨w.heap.size, 3, none⟩ = some (.int .i64 q) := by rw [cell_of_row _ _ _ _ _ _ hblk1]; rfl
  have HB1 : Hid (Below w.heap.size w w1) := (bel_alloc w _).trans (hb1.mono (by simp))
  have hsz1 : w.heap.size < w1.heap.size := by have := hb1.size; simp at this; omega
  have HBLK1 : Hid _ := hblk1
  clear hb1 hblk1
  go_wp2_with fail
  refine (cut_any k v d q w1 hk hv).mono ?_
  rintro e w2 ⟨rfl, hb2⟩
  have hsz2 : w.heap.size < w2.heap.size := Nat.lt_of_lt_of_le hsz1 hb2.size
  have hblk2 : w2.heap[w.heap.size]? = some (Obj.cells #[.string k, .string v, .bool d, .int .i64 q] 23) := by rw [hb2.block _ hsz1]; exact HBLK1.out
  obtain ⟨k1, v1, HC⟩ : ∃ k1 v1, Hid (cutE 200 1100 ⟨k, v, d, q⟩ = ⟨k1, v1, d, q⟩) := ⟨_, _, rfl⟩
  have hk1 : k1.size ≤ 200 := by
    have := congrArg (fun e => e.key.size) HC.out
    simp only [cutE, ByteArray.size_extract] at this
    omega
  have hv1 : v1.size ≤ 1100 := by
    have := congrArg (fun e => e.value.size) HC.out
    simp only [cutE, ByteArray.size_extract] at this
    omega
  rw [HC.out]
  simp only [encE]
  have HB2 : Hid (Below w.heap.size w w2) := HB1.out.trans (hb2.mono (Nat.le_of_lt hsz1))
  have f0 : w2.frozen? ⟨w.heap.size, 0, none⟩ = false := frozen_of_row w2 _ 0 _ 23 hblk2
  have f1 : w2.frozen? ⟨w.heap.size, 1, none⟩ = false := frozen_of_row w2 _ 1 _ 23 hblk2
  have f2 : w2.frozen? ⟨w.heap.size, 2, none⟩ = false := frozen_of_row w2 _ 2 _ 23 hblk2
  have f3 : w2.frozen? ⟨w.heap.size, 3, none⟩ = false := frozen_of_row w2 _ 3 _ 23 hblk2
  have c0 : w2.cell? ⟨w.heap.size, 0, none⟩ = some (.string k) := by rw [cell_of_row _ _ _ _ _ _ hblk2]; rfl
  have c1 : w2.cell? ⟨w.heap.size, 1, none⟩ = some (.string v) := by rw [cell_of_row _ _ _ _ _ _ hblk2]; rfl
  have c2 : w2.cell? ⟨w.heap.size, 2, none⟩ = some (.bool d) := by rw [cell_of_row _ _ _ _ _ _ hblk2]; rfl
  have c3 : w2.cell? ⟨w.heap.size, 3, none⟩ = some (.int .i64 q) := by rw [cell_of_row _ _ _ _ _ _ hblk2]; rfl
  have HBLK2 : Hid _ := hblk2
  clear hb2 hblk2 b0 b1 b2 b3
  obtain ⟨m, hm⟩ : ∃ m, m = min n 2000 := ⟨_, rfl⟩
  have hz1 : min (n : Int) 2000 = (m : Int) := by omega
  have hmn : (m : Int) ≤ (n : Int) := by omega
  have hmc : (m : Int) ≤ (c : Int) := by omega
  have hm2 : m ≤ 2000 := by omega
  have hmn' : m ≤ n := by omega
  clear hm
  go_wp2_with fail
  have hblk3 := heap_four w2 w.heap.size _ _ _ _ (.string k1) (.string v1) (.bool d) (.int .i64 q) 23 HBLK2.out
  have hB3 := bel_four HB2.out (Nat.le_refl _) (.string k1) (.string v1) (.bool d) (.int .i64 q)
  clear c0 c1 c2 c3 f0 f1 f2 f3
  generalize ((((w2.setCell ⟨w.heap.size, 0, none⟩ (.string k1)).setCell ⟨w.heap.size, 1, none⟩ (.string v1)).setCell ⟨w.heap.size, 2, none⟩ (.bool d)).setCell ⟨w.heap.size, 3, none⟩ (.int .i64 q)) = w3 at hblk3 hB3 ⊢
  have hsz3 : w.heap.size < w3.heap.size := (Array.getElem?_eq_some_iff.1 hblk3).1
  have HB3 : Hid _ := hB3
  have HBLK3 : Hid _ := hblk3
  have HBM : Hid (Bytes w3 ao m (bs.take m)) := bytes_kept (bytes_take HBY.out m hmn') HB3.out (Nat.le_refl _)
  clear hblk3 hB3
  obtain ⟨bm, HM⟩ : ∃ s, Hid (bs.take m = s) := ⟨_, rfl⟩
  rw [HM.out] at HBM
  have HCELL : Hid (∀ W, Below w3.heap.size w3 W → W.cell? ⟨w.heap.size, 0, none⟩ = some (.string k1) ∧ W.cell? ⟨w.heap.size, 1, none⟩ = some (.string v1) ∧ W.cell? ⟨w.heap.size, 2, none⟩ = some (.bool d) ∧ W.cell? ⟨w.heap.size, 3, none⟩ = some (.int .i64 q)) := by
    show ∀ _, _
    intro W hW
    have hb : W.heap[w.heap.size]? = some (Obj.cells #[.string k1, .string v1, .bool d, .int .i64 q] 23) := by rw [hW.block _ hsz3]; exact HBLK3.out
    exact ⟨by rw [cell_of_row _ _ _ _ _ _ hb]; rfl, by rw [cell_of_row _ _ _ _ _ _ hb]; rfl, by rw [cell_of_row _ _ _ _ _ _ hb]; rfl, by rw [cell_of_row _ _ _ _ _ _ hb]; rfl⟩
  have hlen := bytesB_len ⟨k1, v1, d, q⟩
  refine (bytes_any k1 v1 d q w3 (by omega) (by omega)).mono ?_
  rintro e w4 ⟨v4, rfl, hown4, hb4⟩
  obtain ⟨nb, HNB⟩ : ∃ s, Hid (bytesB ⟨k1, v1, d, q⟩ = s) := ⟨_, rfl⟩
  rw [HNB.out] at hown4 hlen
  obtain ⟨ao4, c4, rfl, hby4, h04, -, -, -, -⟩ := own_bytes hown4
  have HB4 : Hid _ := hb4
  have HY4 : Hid (Bytes (w4.alloc (.cells #[] 5)) ao4 nb.length nb) := bytes_kept hby4 (bel_alloc w4 _) (Nat.le_refl _)
  have H04 : Hid _ := h04
  have HO4 : Hid ((w4.alloc (.cells #[] 5)).ownsRow w4.heap.size 5 1 (.slice (some ⟨w4.heap.size, 0, none⟩) 0 0) 0 (cellsOf [])) := own_empty w4
  have HBM4 : Hid (Bytes w4 ao m bm) := bytes_kept HBM.out hb4 (Nat.le_refl _)
  obtain ⟨nl, HNL⟩ : ∃ s, Hid (nb.length = s) := ⟨_, rfl⟩
  rw [HNL.out] at HY4 hlen ⊢
  clear hown4 hby4 h04 hb4
  go_wp2_with (at_builtin; refine wpList_append_bytes _ rfl (.tmp 24) (.tmp 25) rfl w4.heap.size _ 0 [] rfl HO4.out (by simp) ao4 nl c4 nb rfl HY4.out H04.out (by omega) ?_)
  intro v5 w5 hown5 hb5
  rw [HNL.out] at hown5
  have HB5 : Hid (Below w4.heap.size w4 w5) := (bel_alloc w4 _).trans hb5
  have HO5 : Hid (w5.ownsRow w4.heap.size 5 1 v5 nl (cellsOf nb)) := hown5
  have HBM5 : Hid (Bytes w5 ao m bm) := bytes_kept HBM4.out HB5.out (Nat.le_refl _)
  have hsz5 : w4.heap.size ≤ w5.heap.size := HB5.out.size
  clear hown5 hb5 HY4 HO4
  go_wp2_with (at_builtin; refine wpList_append_read _ rfl (.tmp 26) (.tmp 27) rfl w4.heap.size _ nl nb rfl HO5.out hsz5 ao m c bm rfl HBM5.out h0 (by omega) ?_)
  intro ao6 n6 c6 w6 hby6 hn6 hc6 hnm6 hb6
  have HB6 : Hid (Below w4.heap.size w4 w6) := HB5.out.trans hb6
  have HP6 : Hid _ := parse_any ao6 n6 c6 (nb ++ bm) w6 hby6 hn6 hc6
  clear hby6 hb6
  go_wp2_with fail
  refine Calls.mono HP6.out ?_
  rintro e w7 ⟨rfl, hb7⟩
  have HB7 : Hid (Below w4.heap.size w4 w7) := HB6.out.trans (hb7.mono HB6.out.size)
  have HBM7 : Hid (Bytes w7 ao m bm) := bytes_kept HBM4.out HB7.out (Nat.le_refl _)
  clear hb7 HP6
  obtain ⟨⟨k2, v2, d2, q2⟩, n2, g2, HPV⟩ : ∃ (x : E) (n : Int) (g : Int), Hid (parseV (parseOf (nb ++ bm)) = .tuple #[.agg (encE x).toArray, .int .i64 n, .int .i64 g]) := by
    cases hh : parseOf (nb ++ bm) with
    | none => exact ⟨_, _, _, rfl⟩
    | some xn => obtain ⟨x, n⟩ := xn; exact ⟨_, _, _, rfl⟩
  rw [HPV.out]
  simp only [encE]
  have HP8 : Hid (∀ o, Calls Try.prog 20 #[.slice ao m c] (w7.alloc o) fun e w' => e = .returned (parseV (parseOf bm)) ∧ Below (w7.alloc o).heap.size (w7.alloc o) w') := by
    show ∀ _, _
    intro o
    exact parse_any ao m c bm (w7.alloc o) (bytes_kept HBM7.out (bel_alloc w7 o) (Nat.le_refl _)) (by omega) hc
  go_wp2_with fail
  refine (HP8.out _).mono ?_
  rintro e w8 ⟨rfl, hb8⟩
  have hblk8 : w8.heap[w7.heap.size]? = some (Obj.cells #[.string k2, .string v2, .bool d2, .int .i64 q2] 23) := by rw [hb8.block _ (by simp), heap_alloc_get, if_pos rfl]
  have HB8 : Hid (Below w4.heap.size w4 w8) := (HB7.out.alloc HB7.out.size _).trans (hb8.mono (by have := HB7.out.size; simp; omega))
  have HBLK8 : Hid _ := hblk8
  have HBM8 : Hid (Bytes w8 ao m bm) := bytes_kept HBM4.out HB8.out (Nat.le_refl _)
  have HC8 : Hid (Below w3.heap.size w3 w8) := HB4.out.trans (HB8.out.mono HB4.out.size)
  have HZ8 : Hid (Below w.heap.size w w8) := HB3.out.trans (HC8.out.mono (Nat.le_of_lt hsz3))
  clear hblk8 hb8 HP8
  obtain ⟨⟨k3, v3, d3, q3⟩, n3, g3, HPY⟩ : ∃ (x : E) (n : Int) (g : Int), Hid (parseV (parseOf bm) = .tuple #[.agg (encE x).toArray, .int .i64 n, .int .i64 g]) := by
    cases hh : parseOf bm with
    | none => exact ⟨_, _, _, rfl⟩
    | some xn => obtain ⟨x, n⟩ := xn; exact ⟨_, _, _, rfl⟩
  rw [HPY.out]
  simp only [encE]
  go_upto_region 7 with fail
  obtain ⟨w9, HW9⟩ : ∃ w9, Hid (w9 = w8.alloc (Obj.cells #[.string k3, .string v3, .bool d3, .int .i64 q3] 23)) := ⟨_, rfl⟩
  have hblk9 : w9.heap[w8.heap.size]? = some (Obj.cells #[.string k3, .string v3, .bool d3, .int .i64 q3] 23) := by rw [HW9.out, heap_alloc_get, if_pos rfl]
  have HB9 : Hid (Below w8.heap.size w8 w9) := by show Below _ _ _; rw [HW9.out]; exact bel_alloc _ _
  rw [← HW9.out]
  have g0 : w9.cell? ⟨w8.heap.size, 0, none⟩ = some (.string k3) := by rw [cell_of_row _ _ _ _ _ _ hblk9]; rfl
  have g1 : w9.cell? ⟨w8.heap.size, 1, none⟩ = some (.string v3) := by rw [cell_of_row _ _ _ _ _ _ hblk9]; rfl
  have g2' : w9.cell? ⟨w8.heap.size, 2, none⟩ = some (.bool d3) := by rw [cell_of_row _ _ _ _ _ _ hblk9]; rfl
  have g3' : w9.cell? ⟨w8.heap.size, 3, none⟩ = some (.int .i64 q3) := by rw [cell_of_row _ _ _ _ _ _ hblk9]; rfl
  have HBM9 : Hid (Bytes w9 ao m bm) := bytes_kept HBM8.out HB9.out (Nat.le_refl _)
  clear hblk9
  go_cut [65] (fun s65 wx => s65 = .bool false ∧ Hid (Below w9.heap.size w9 wx))
  case first =>
    cases hpp : parseOf bm with
    | none =>
      have he := HPY.out
      rw [hpp] at he
      simp only [parseV, encE, Value.tuple.injEq, Array.mk.injEq, List.cons.injEq, Value.int.injEq, and_true, true_and] at he
      have hg3 : g3 = 2 := he.2.2.symm
      subst hg3
      clear he hpp HPY
      go_quiet (fail)
      have HZ : Hid (Below w9.heap.size w9 (w9.drewN nq)) := bel_drewN (Below.refl _ _) nq
      go_wp2
      go_meet
      case rel => exact ⟨rfl, HZ⟩
    | some yn =>
      obtain ⟨⟨k4, v4, d4, q4⟩, n4⟩ := yn
      have he := HPY.out
      rw [hpp] at he
      simp only [parseV, encE, Value.tuple.injEq, Array.mk.injEq, List.cons.injEq, Value.int.injEq, and_true, true_and, Value.agg.injEq, Value.string.injEq, Value.bool.injEq] at he
      obtain ⟨⟨rfl, rfl, rfl, rfl⟩, rfl, rfl⟩ := he
      obtain ⟨hr4, hn41, hn4l, ht4⟩ := parse_once hpp
      have hbl := HBM.out.1
      rw [hbl] at hn4l
      obtain ⟨hk4, hv4, _⟩ := right_parts hr4
      simp only at hk4 hv4
      have CR := fun w => right_any k4 v4 d4 q4 w (by omega) (by omega)
      rw [hr4] at CR
      have HCR : Hid _ := CR
      have hlen4 := congrArg List.length ht4
      rw [List.length_take, hbl] at hlen4
      have CB := fun w => bytes_any k4 v4 d4 q4 w (by omega) (by omega)
      rw [← ht4] at CB
      obtain ⟨bt, HBT⟩ : ∃ s, Hid (bm.take n4 = s) := ⟨_, rfl⟩
      have hbtl : bt.length = n4 := by rw [← HBT.out, List.length_take, hbl]; omega
      rw [HBT.out, hbtl] at CB
      have HCB : Hid _ := CB
      have HBT9 : Hid (Bytes w9 ao n4 bt) := by show Bytes _ _ _ _; rw [← HBT.out]; exact bytes_take HBM9.out n4 hn4l
      have hn1 : ¬ (n4 : Int) < 1 := by omega
      have hn2 : ¬ (m : Int) < (n4 : Int) := by omega
      have hn3 : (n4 : Int) ≤ (m : Int) := by omega
      have hn5 : (n4 : Int) ≤ (c : Int) := by omega
      have d1 : decide ((n4 : Int) < 1) = false := decide_eq_false hn1
      have d2 : decide ((m : Int) < (n4 : Int)) = false := decide_eq_false hn2
      have d3 : decide (m < n4) = false := decide_eq_false (by omega)
      have d4' : decide (n4 < 1) = false := decide_eq_false (by omega)
      have HT4 : Hid _ := And.intro ht4 hr4
      clear CR CB hpp HPY ht4 hr4 hlen4
      have hcv : (convert 24 9 (.slice ao n4 c)).run Try.prog w9.drew = .ok (.string ⟨bt.toArray⟩) w9.drew := str_bytes c (bytes_drew1 HBT9.out)
      refine wp_region_noPanic ?_
      refine wp_region_held_drew (S := fun w' => w'.cell? ⟨w8.heap.size, 0, none⟩ = some (.string k4) ∧ w'.cell? ⟨w8.heap.size, 1, none⟩ = some (.string v4) ∧ w'.cell? ⟨w8.heap.size, 2, none⟩ = some (.bool d4) ∧ w'.cell? ⟨w8.heap.size, 3, none⟩ = some (.int .i64 q4) ∧ (convert 24 9 (.slice ao n4 c)).run Try.prog w' = .ok (.string ⟨bt.toArray⟩) w') (by kernel_rfl) ⟨g0, g1, g2', g3', hcv⟩ (fun hHeld => ?_)
      refine wpAnyH_take (i := 0) (v := ?_) rfl (by kernel_rfl) (by kernel_rfl) (by kernel_rfl) (fun _ _ _ h => h) (Or.inl ⟨by rfl, ?_⟩) (by assumption) ?_
      rotate_left
      · (intro w hSw; (try dsimp only at hSw); go_simp; try with_reducible rfl)
      simp only [Act.put, List.getElem_toArray, List.getElem_cons_zero, List.setIfInBounds_toArray, List.set_cons_zero, List.set_cons_succ]
      refine wpAnyH_take (i := 1) (v := ?_) rfl (by kernel_rfl) (by kernel_rfl) (by kernel_rfl) (fun _ _ _ h => h) (Or.inl ⟨by rfl, ?_⟩) (by assumption) ?_
      rotate_left
      · (intro w hSw; (try dsimp only at hSw); go_simp; try with_reducible rfl)
      simp only [Act.put, List.getElem_toArray, List.getElem_cons_zero, List.getElem_cons_succ, List.setIfInBounds_toArray, List.set_cons_zero, List.set_cons_succ]
      refine wpAnyH_take (i := 2) (v := ?_) rfl (by kernel_rfl) (by kernel_rfl) (by kernel_rfl) (fun _ _ _ h => h) (Or.inl ⟨by rfl, ?_⟩) (by assumption) ?_
      rotate_left
      · (intro w hSw; (try dsimp only at hSw); go_simp; try with_reducible rfl)
      simp only [Act.put, List.getElem_toArray, List.getElem_cons_zero, List.getElem_cons_succ, List.setIfInBounds_toArray, List.set_cons_zero, List.set_cons_succ]
      refine wpAnyH_take (i := 3) (v := ?_) rfl (by kernel_rfl) (by kernel_rfl) (by kernel_rfl) (fun _ _ _ h => h) (Or.inl ⟨by rfl, ?_⟩) (by assumption) ?_
      rotate_left
      · (intro w hSw; (try dsimp only at hSw); go_simp; try with_reducible rfl)
      simp only [Act.put, List.getElem_toArray, List.getElem_cons_zero, List.getElem_cons_succ, List.setIfInBounds_toArray, List.set_cons_zero, List.set_cons_succ]
      refine wpAnyH_ready (rs := [4]) (by kernel_rfl) (by simp) ?_
      refine AllReadyH.cons rfl (fun K hK => ?_) ?_
      rotate_left
      · exact AllReadyH.nil
      go_simp
      refine (HCR.out _).mono ?_
      rintro e w10 ⟨rfl, hb10⟩
      have hS10 := And.intro (bel_cell hb10 (Nat.le_refl _) g0) (And.intro (bel_cell hb10 (Nat.le_refl _) g1) (And.intro (bel_cell hb10 (Nat.le_refl _) g2') (And.intro (bel_cell hb10 (Nat.le_refl _) g3') (str_bytes c (bytes_kept HBT9.out ((Below.drew (Below.refl w9.heap.size w9)).trans hb10) (Nat.le_refl _))))))
      go_wp2_with fail
      refine hK.out _ _ ?_ (fun hHeld2 => ?_)
      · exact hS10
      clear hK K
      refine wpAnyH_take (i := 5) (v := ?_) rfl (by kernel_rfl) (by kernel_rfl) (by kernel_rfl) (fun _ _ _ h => h) (Or.inl ⟨by rfl, ?_⟩) (by assumption) ?_
      rotate_left
      · (intro w hSw; (try dsimp only at hSw); go_simp; try with_reducible rfl)
      simp only [Act.put, List.getElem_toArray, List.getElem_cons_zero, List.getElem_cons_succ, List.setIfInBounds_toArray, List.set_cons_zero, List.set_cons_succ]
      refine wpAnyH_take (i := 6) (v := ?_) rfl (by kernel_rfl) (by kernel_rfl) (by kernel_rfl) (fun _ _ _ h => h) (Or.inl ⟨by rfl, ?_⟩) (by assumption) ?_
      rotate_left
      · (intro w hSw; (try dsimp only at hSw); go_simp; try with_reducible rfl)
      simp only [Act.put, List.getElem_toArray, List.getElem_cons_zero, List.getElem_cons_succ, List.setIfInBounds_toArray, List.set_cons_zero, List.set_cons_succ]
      refine wpAnyH_take (i := 7) (v := ?_) rfl (by kernel_rfl) (by kernel_rfl) (by kernel_rfl) (fun _ _ _ h => h) (Or.inl ⟨by rfl, ?_⟩) (by assumption) ?_
      rotate_left
      · (intro w hSw; (try dsimp only at hSw); go_simp; try with_reducible rfl)
      simp only [Act.put, List.getElem_toArray, List.getElem_cons_zero, List.getElem_cons_succ, List.setIfInBounds_toArray, List.set_cons_zero, List.set_cons_succ]
      refine wpAnyH_take (i := 8) (v := ?_) rfl (by kernel_rfl) (by kernel_rfl) (by kernel_rfl) (fun _ _ _ h => h) (Or.inl ⟨by rfl, ?_⟩) (by assumption) ?_
      rotate_left
      · (intro w hSw; (try dsimp only at hSw); go_simp; try with_reducible rfl)
      simp only [Act.put, List.getElem_toArray, List.getElem_cons_zero, List.getElem_cons_succ, List.setIfInBounds_toArray, List.set_cons_zero, List.set_cons_succ]
      refine wpAnyH_take (i := 9) (v := ?_) rfl (by kernel_rfl) (by kernel_rfl) (by kernel_rfl) (fun _ _ _ h => h) (Or.inl ⟨by rfl, ?_⟩) (by assumption) ?_
      rotate_left
      · (intro w hSw; (try dsimp only at hSw); go_simp; try with_reducible rfl)
      simp only [Act.put, List.getElem_toArray, List.getElem_cons_zero, List.getElem_cons_succ, List.setIfInBounds_toArray, List.set_cons_zero, List.set_cons_succ]
      refine wpAnyH_take (i := 10) (v := ?_) rfl (by kernel_rfl) (by kernel_rfl) (by kernel_rfl) (fun _ _ _ h => h) (Or.inl ⟨by rfl, ?_⟩) (by assumption) ?_
      rotate_left
      · (intro w hSw; (try dsimp only at hSw); go_simp; try with_reducible rfl)
      simp only [Act.put, List.getElem_toArray, List.getElem_cons_zero, List.getElem_cons_succ, List.setIfInBounds_toArray, List.set_cons_zero, List.set_cons_succ]
      refine wpAnyH_take (i := 11) (v := ?_) rfl (by kernel_rfl) (by kernel_rfl) (by kernel_rfl) (fun _ _ _ h => h) (Or.inl ⟨by rfl, ?_⟩) (by assumption) ?_
      rotate_left
      · (intro w hSw; (try dsimp only at hSw); go_simp; try with_reducible rfl)
      simp only [Act.put, List.getElem_toArray, List.getElem_cons_zero, List.getElem_cons_succ, List.setIfInBounds_toArray, List.set_cons_zero, List.set_cons_succ]
      refine wpAnyH_take (i := 12) (v := ?_) rfl (by kernel_rfl) (by kernel_rfl) (by kernel_rfl) (fun _ _ _ h => h) (Or.inl ⟨by rfl, ?_⟩) (by assumption) ?_
      rotate_left
      · (intro w hSw; (try dsimp only at hSw); go_simp; try with_reducible rfl)
      simp only [Act.put, List.getElem_toArray, List.getElem_cons_zero, List.getElem_cons_succ, List.setIfInBounds_toArray, List.set_cons_zero, List.set_cons_succ]
      refine wpAnyH_take (i := 13) (v := ?_) rfl (by kernel_rfl) (by kernel_rfl) (by kernel_rfl) (fun _ _ _ h => h) (Or.inl ⟨by rfl, ?_⟩) (by assumption) ?_
      rotate_left
      · (intro w hSw; (try dsimp only at hSw); go_simp; try with_reducible rfl)
      simp only [Act.put, List.getElem_toArray, List.getElem_cons_zero, List.getElem_cons_succ, List.setIfInBounds_toArray, List.set_cons_zero, List.set_cons_succ]
      refine wpAnyH_take (i := 14) (v := ?_) rfl (by kernel_rfl) (by kernel_rfl) (by kernel_rfl) (fun _ _ _ h => h) (Or.inl ⟨by rfl, ?_⟩) (by assumption) ?_
      rotate_left
      · (intro w hSw; (try dsimp only at hSw); go_simp; try with_reducible rfl)
      simp only [Act.put, List.getElem_toArray, List.getElem_cons_zero, List.getElem_cons_succ, List.setIfInBounds_toArray, List.set_cons_zero, List.set_cons_succ]
      refine wpAnyH_take (i := 15) (v := ?_) rfl (by kernel_rfl) (by kernel_rfl) (by kernel_rfl) (fun _ _ _ h => h) (Or.inl ⟨by rfl, ?_⟩) (by assumption) ?_
      rotate_left
      · (intro w hSw; (try dsimp only at hSw); go_simp; try with_reducible rfl)
      simp only [Act.put, List.getElem_toArray, List.getElem_cons_zero, List.getElem_cons_succ, List.setIfInBounds_toArray, List.set_cons_zero, List.set_cons_succ]
      refine wpAnyH_take (i := 16) (v := ?_) rfl (by kernel_rfl) (by kernel_rfl) (by kernel_rfl) (fun _ _ _ h => h) (Or.inl ⟨by rfl, ?_⟩) (by assumption) ?_
      rotate_left
      · (intro w hSw; (try dsimp only at hSw); go_simp; try with_reducible rfl)
      simp only [Act.put, List.getElem_toArray, List.getElem_cons_zero, List.getElem_cons_succ, List.setIfInBounds_toArray, List.set_cons_zero, List.set_cons_succ]
      refine wpAnyH_take (i := 17) (v := ?_) rfl (by kernel_rfl) (by kernel_rfl) (by kernel_rfl) (fun _ _ _ h => h) (Or.inl ⟨by rfl, ?_⟩) (by assumption) ?_
      rotate_left
      · (intro w hSw; (try dsimp only at hSw); go_simp; try with_reducible rfl)
      simp only [Act.put, List.getElem_toArray, List.getElem_cons_zero, List.getElem_cons_succ, List.setIfInBounds_toArray, List.set_cons_zero, List.set_cons_succ]
      refine wpAnyH_take (i := 20) (v := ?_) rfl (by kernel_rfl) (by kernel_rfl) (by kernel_rfl) (fun _ _ _ h => h) (Or.inl ⟨by rfl, ?_⟩) (by assumption) ?_
      rotate_left
      · (intro w hSw; (try dsimp only at hSw); go_simp; try with_reducible rfl)
      simp only [Act.put, List.getElem_toArray, List.getElem_cons_zero, List.getElem_cons_succ, List.setIfInBounds_toArray, List.set_cons_zero, List.set_cons_succ]
      refine wpAnyH_take (i := 21) (v := ?_) rfl (by kernel_rfl) (by kernel_rfl) (by kernel_rfl) (fun _ _ _ h => h) (Or.inl ⟨by rfl, ?_⟩) (by assumption) ?_
      rotate_left
      · (intro w hSw; (try dsimp only at hSw); go_simp; try with_reducible rfl)
      simp only [Act.put, List.getElem_toArray, List.getElem_cons_zero, List.getElem_cons_succ, List.setIfInBounds_toArray, List.set_cons_zero, List.set_cons_succ]
      refine wpAnyH_take (i := 22) (v := ?_) rfl (by kernel_rfl) (by kernel_rfl) (by kernel_rfl) (fun _ _ _ h => h) (Or.inl ⟨by rfl, ?_⟩) (by assumption) ?_
      rotate_left
      · (intro w hSw; (try dsimp only at hSw); go_simp; try with_reducible rfl)
      simp only [Act.put, List.getElem_toArray, List.getElem_cons_zero, List.getElem_cons_succ, List.setIfInBounds_toArray, List.set_cons_zero, List.set_cons_succ]
      refine wpAnyH_take (i := 23) (v := ?_) rfl (by kernel_rfl) (by kernel_rfl) (by kernel_rfl) (fun _ _ _ h => h) (Or.inl ⟨by rfl, ?_⟩) (by assumption) ?_
      rotate_left
      · (intro w hSw; (try dsimp only at hSw); go_simp; try with_reducible rfl)
      simp only [Act.put, List.getElem_toArray, List.getElem_cons_zero, List.getElem_cons_succ, List.setIfInBounds_toArray, List.set_cons_zero, List.set_cons_succ]
      refine wpAnyH_ready (rs := [18]) (by kernel_rfl) (by simp) ?_
      refine AllReadyH.cons rfl (fun K hK => ?_) ?_
      rotate_left
      · exact AllReadyH.nil
      go_simp
      refine (HCB.out _).mono ?_
      rintro e w11 ⟨v11, rfl, hown11, hb11⟩
      obtain ⟨ao11, c11, rfl, hby11, -, -, -, -, -⟩ := own_bytes hown11
      have hcv11 : (convert 24 9 (.slice ao11 n4 c11)).run Try.prog w11 = .ok (.string ⟨bt.toArray⟩) w11 := str_bytes c11 hby11
      have hS11 := And.intro (bel_cell hb11 (Nat.le_refl _) hS10.1) (And.intro (bel_cell hb11 (Nat.le_refl _) hS10.2.1) (And.intro (bel_cell hb11 (Nat.le_refl _) hS10.2.2.1) (And.intro (bel_cell hb11 (Nat.le_refl _) hS10.2.2.2.1) (str_bytes c (bytes_kept HBT9.out (((Below.drew (Below.refl w9.heap.size w9)).trans hb10).trans (hb11.mono hb10.size)) (Nat.le_refl _))))))
      go_wp2_with fail
      refine hK.out _ _ ?_ (fun hHeld2 => ?_)
      · exact hS11
      clear hK K
      refine wpAnyH_ready (rs := [19]) (by kernel_rfl) (by simp) ?_
      refine AllReadyH.cons rfl (fun K hK => ?_) ?_
      rotate_left
      · exact AllReadyH.nil
      go_simp
      refine hK.out _ _ ?_ (fun hHeld2 => ?_)
      · exact hS11
      clear hK K
      refine wpAnyH_take (i := 24) (v := ?_) rfl (by kernel_rfl) (by kernel_rfl) (by kernel_rfl) (fun _ _ _ h => h) (Or.inl ⟨by rfl, ?_⟩) (by assumption) ?_
      rotate_left
      · (intro w hSw; (try dsimp only at hSw); go_simp; try with_reducible rfl)
      simp only [Act.put, List.getElem_toArray, List.getElem_cons_zero, List.getElem_cons_succ, List.setIfInBounds_toArray, List.set_cons_zero, List.set_cons_succ]
      refine wpAnyH_take (i := 25) (v := ?_) rfl (by kernel_rfl) (by kernel_rfl) (by kernel_rfl) (fun _ _ _ h => h) (Or.inl ⟨by rfl, ?_⟩) (by assumption) ?_
      rotate_left
      · (intro w hSw; (try dsimp only at hSw); go_simp; try with_reducible rfl)
      simp only [Act.put, List.getElem_toArray, List.getElem_cons_zero, List.getElem_cons_succ, List.setIfInBounds_toArray, List.set_cons_zero, List.set_cons_succ]
      refine wpAnyH_take (i := 26) (v := ?_) rfl (by kernel_rfl) (by kernel_rfl) (by kernel_rfl) (fun _ _ _ h => h) (Or.inl ⟨by rfl, ?_⟩) (by assumption) ?_
      rotate_left
      · (intro w hSw; (try dsimp only at hSw); go_simp; try with_reducible rfl)
      simp only [Act.put, List.getElem_toArray, List.getElem_cons_zero, List.getElem_cons_succ, List.setIfInBounds_toArray, List.set_cons_zero, List.set_cons_succ]
      refine wpAnyH_done (by kernel_rfl) ?_ _
      refine NoPanic.normal ?_
      have HZ : Hid (Below w9.heap.size w9 w11) := ((Below.drew (Below.refl w9.heap.size w9)).trans hb10).trans (hb11.mono hb10.size)
      clear hb10 hb11 hS10 hS11 hown11 hby11 hcv11 hHeld
      go_wp2
      go_meet
      case rel => exact ⟨rfl, HZ⟩
  case rest =>
    obtain ⟨rfl, HB10⟩ := hcut
    clear g0 g1 g2' g3'
    have hB8c : Below w8.heap.size w8 wc := HB9.out.trans (HB10.out.mono HB9.out.size)
    have hB3c : Below w3.heap.size w3 wc := HC8.out.trans (hB8c.mono HC8.out.size)
    obtain ⟨e0, e1, e2, e3⟩ := HCELL.out wc hB3c
    have hblkc : wc.heap[w7.heap.size]? = some (Obj.cells #[.string k2, .string v2, .bool d2, .int .i64 q2] 23) := by rw [hB8c.block _ (Array.getElem?_eq_some_iff.1 HBLK8.out).1]; exact HBLK8.out
    have HBC : Hid (Below w.heap.size w wc) := HB3.out.trans (hB3c.mono (Nat.le_of_lt hsz3))
    have HBLKC : Hid _ := hblkc
    have HB3C : Hid _ := hB3c
    have hsc : w3.heap.size ≤ wc.heap.size := hB3c.size
    clear hB8c hB3c hblkc
    obtain ⟨r, HR⟩ : ∃ r, Hid (rightB ⟨k1, v1, d, q⟩ = r) := ⟨_, rfl⟩
    have CR := fun w => right_any k1 v1 d q w (by omega) (by omega)
    rw [HR.out] at CR
    have HCR : Hid _ := CR
    clear CR
    go_wp2_with fail
    refine (HCR.out _).mono ?_
    rintro e w12 ⟨rfl, hb12⟩
    have HZ : Hid (Below w.heap.size w w12) := HBC.out.trans (hb12.mono (by omega))
    have hB3d : Below w3.heap.size w3 w12 := Below.trans HB3C.out (hb12.mono hsc)
    clear e0 e1 e2 e3
    obtain ⟨e0, e1, e2, e3⟩ := HCELL.out w12 hB3d
    have hblkd : w12.heap[w7.heap.size]? = some (Obj.cells #[.string k2, .string v2, .bool d2, .int .i64 q2] 23) := by rw [hb12.block _ (Array.getElem?_eq_some_iff.1 HBLKC.out).1]; exact HBLKC.out
    clear hb12 hB3d
    cases r with
    | false =>
      have hnl : nl = 0 := by rw [← HNL.out, ← HNB.out, bytesB_wrong _ HR.out]; rfl
      subst hnl
      clear hblkd
      go_wp2
      go_ret
      exact ⟨rfl, HZ.out⟩
    | true =>
      have hp := parse_bytes ⟨k1, v1, d, q⟩ HR.out bm
      rw [HNB.out, HNL.out] at hp
      have he := HPV.out
      rw [hp] at he
      simp only [parseV, encE, Value.tuple.injEq, Array.mk.injEq, List.cons.injEq, Value.int.injEq, and_true, true_and, Value.agg.injEq, Value.string.injEq, Value.bool.injEq] at he
      obtain ⟨⟨rfl, rfl, rfl, rfl⟩, rfl, rfl⟩ := he
      have g0 : w12.cell? ⟨w7.heap.size, 0, none⟩ = some (.string k1) := by rw [cell_of_row _ _ _ _ _ _ hblkd]; rfl
      have g1 : w12.cell? ⟨w7.heap.size, 1, none⟩ = some (.string v1) := by rw [cell_of_row _ _ _ _ _ _ hblkd]; rfl
      have g2 : w12.cell? ⟨w7.heap.size, 2, none⟩ = some (.bool d) := by rw [cell_of_row _ _ _ _ _ _ hblkd]; rfl
      have g3 : w12.cell? ⟨w7.heap.size, 3, none⟩ = some (.int .i64 q) := by rw [cell_of_row _ _ _ _ _ _ hblkd]; rfl
      have heq := fun w => equal23 k1 v1 d q k1 v1 d q w
      rw [decide_eq_true rfl] at heq
      have hg := guard23
      clear hblkd hp HPV
      go_wp2
      go_ret
      exact ⟨rfl, HZ.out⟩
end Go.Proofs.Yteemfhhhdhddhaa
