/-
  What marlstoneref05's Half, LeafText, NodeText, Leaf and Node answer: contracts over this translation.
-/
import Derived.Test.YtecacjddggljgaaDoorSRefKept
import Derived.Test.YtecacjddggljgaaDoorSHalf
import Derived.Test.YtecacjddggljgaaDoorPartBJ
namespace Go.Proofs.YtecacjddggljgaaDoor.Sm
open Go.RowKit
theorem wdbl {k n : Nat} (h : 2 * k < n) (hn : n ≤ 9223372036854775807) : wrap64 ((k : Int) * 2) = ((2 * k : Nat) : Int) := by unfold wrap64; omega
set_option maxRecDepth 100000 in
set_option maxHeartbeats 1000000 in
theorem refHalf_any (n : Nat) (w : World) (h2 : 2 ≤ n) (hn : n ≤ 9223372036854775807) : Calls Tryd.prog 103 #[.int .i64 (n : Int)] w fun e w' => e = .returned (.int .i64 ((halfN n : Nat) : Int)) ∧ w' = w := by
  go_enter Tryd.func103, Tryd.ntmps103
  go_wp2_with fail
  go_loopw [3] (fun s3 wr => ∃ (k : Nat), s3 = .int .i64 (k : Int) ∧ k < n ∧ Hid (∃ j, 2 ^ j = k) ∧ Hid (wr = w)) (fun x _ => n - (intOf x).toNat)
  case atStart => exact ⟨1, rfl, by omega, ⟨0, rfl⟩, rfl⟩
  case round =>
    obtain ⟨k, rfl, hk, HJ, HW⟩ := hrel
    have hw1 : wrap64 ((n : Int) - (k : Int)) = ((n - k : Nat) : Int) := wsub (Nat.le_of_lt hk) hn
    have HK1 : Hid (1 ≤ k) := by obtain ⟨j, hj⟩ := HJ.out; show _ ≤ _; rw [← hj]; exact Nat.one_le_two_pow
    by_cases hlt : k < n - k
    case pos =>
      have hlz : (k : Int) < ((n - k : Nat) : Int) := Int.ofNat_lt.2 hlt
      have hk2 : 2 * k < n := by clear hw1; omega
      have hw2 : wrap64 ((k : Int) * 2) = ((2 * k : Nat) : Int) := wdbl hk2 hn
      have HJ2 : Hid (∃ j, 2 ^ j = 2 * k) := by obtain ⟨j, hj⟩ := HJ.out; exact ⟨j + 1, by rw [Nat.pow_succ, hj, Nat.mul_comm]⟩
      obtain ⟨t, HT⟩ : ∃ t : Nat, Hid (n - k = t) := ⟨_, rfl⟩
      rw [HT.out] at hw1 hlz
      obtain ⟨k2, HK2⟩ : ∃ t : Nat, Hid (2 * k = t) := ⟨_, rfl⟩
      rw [HK2.out] at hw2 hk2 HJ2
      clear hk hn h2 hlt
      go_wp2_with fail
      refine ⟨⟨k2, by rw [hw2], hk2, HJ2, HW⟩, ?_⟩
      have e1 := HK2.out
      have e2 := HK1.out
      rw [hw2]
      clear hw1 hw2 hlz
      simp only [intOf, Int.toNat_natCast]
      omega
    case neg =>
      have hlz : ¬ (k : Int) < ((n - k : Nat) : Int) := fun h => hlt (Int.ofNat_lt.1 h)
      have HH : Hid (halfN n = k) := by obtain ⟨j, hj⟩ := HJ.out; show _ = _; rw [← hj]; exact half_is (by rw [hj]; exact hk) (by rw [hj]; clear hw1 hlz; omega) hn
      obtain ⟨t, HT⟩ : ∃ t : Nat, Hid (n - k = t) := ⟨_, rfl⟩
      rw [HT.out] at hw1 hlz
      clear hk hn h2 hlt
      go_wp2_with fail
      go_ret
      exact ⟨by rw [HH.out]; rfl, HW.out⟩
set_option maxRecDepth 100000 in
set_option maxHeartbeats 1000000 in
theorem refLeafT_any (s : ByteArray) (w : World) (hs : s.size ≤ 1000000) : Calls Tryd.prog 126 #[.string s] w fun e w' => e = .returned (.string (⟨#[0]⟩ ++ s)) ∧ w' = w := by
  go_enter Tryd.func126, Tryd.ntmps126
  go_wp2_with fail
  go_ret
  exact ⟨rfl, rfl⟩
theorem strB_app (a b : ByteArray) : strB (a ++ b) = strB a ++ strB b := by unfold strB; simp [ByteArray.data_append]
def digS (d : List UInt8) : ByteArray := ⟨d.toArray⟩
theorem dig_bytes {w : World} {g : Nat} {d : List UInt8} (h : w.rangeAt g 0 (cellsOf d)) (hd : d.length = 32) : Bytes w (some ⟨g, 0, none⟩) 32 d := ⟨hd, fun i c hi => ⟨_, rfl, by
  have := h i (.int .u8 c.toNat) (by rw [cellsOf, List.getElem?_map, hi]; rfl)
  rw [Nat.zero_add] at this
  rw [Addr.add_lit, Nat.zero_add]; exact this⟩⟩
set_option maxRecDepth 100000 in
set_option maxHeartbeats 1000000 in
theorem refNodeT_any (l r : List UInt8) (w : World) (hl : l.length = 32) (hr : r.length = 32) : Calls Tryd.prog 127 #[dv l, dv r] w fun e w' => e = .returned (.string ((⟨#[1]⟩ ++ digS l) ++ digS r)) ∧ Below w.heap.size w w' := by
  have HLR : Hid (l.length = 32 ∧ r.length = 32) := ⟨hl, hr⟩
  clear hl hr
  have hsz1 : (digS l).size = 32 := by show l.toArray.size = 32; rw [List.size_toArray]; exact HLR.out.1
  have hsz2 : (digS r).size = 32 := by show r.toArray.size = 32; rw [List.size_toArray]; exact HLR.out.2
  obtain ⟨sl, HSL⟩ : ∃ s, Hid (digS l = s) := ⟨_, rfl⟩
  obtain ⟨sr, HSR⟩ : ∃ s, Hid (digS r = s) := ⟨_, rfl⟩
  rw [HSL.out] at hsz1 ⊢
  rw [HSR.out] at hsz2 ⊢
  unfold dv
  obtain ⟨cl, HCL⟩ : ∃ c, Hid ((cellsOf l).toArray = c) := ⟨_, rfl⟩
  obtain ⟨cr, HCR⟩ : ∃ c, Hid ((cellsOf r).toArray = c) := ⟨_, rfl⟩
  rw [HCL.out, HCR.out]
  go_enter Tryd.func127, Tryd.ntmps127
  go_upto_region 1 with fail
  have HF := frame2 w (Obj.cells cl 46) cr 46
  obtain ⟨W0, HW0⟩ : ∃ W, Hid ((w.alloc (Obj.cells cl 46)).alloc (Obj.cells cr 46) = W) := ⟨_, rfl⟩
  rw [HW0.out] at HF ⊢
  have HFH : Hid _ := HF
  clear HF HW0
  have HS : Hid (∀ W, Below W0.heap.size W0 W → (convert 27 9 (.slice (some ⟨w.heap.size, 0, none⟩) 32 32)).run Tryd.prog W = .ok (.string (digS l)) W ∧ (convert 27 9 (.slice (some ⟨w.heap.size + 1, 0, none⟩) 32 32)).run Tryd.prog W = .ok (.string (digS r)) W) := fun W hW =>
    ⟨str_bytes 32 (dig_bytes (range_bel (range_of (by rw [HCL.out]; exact HFH.out.1)) hW (Nat.le_refl _)) HLR.out.1), str_bytes 32 (dig_bytes (range_bel (range_of (by rw [HCR.out]; exact HFH.out.2.1)) hW (Nat.le_refl _)) HLR.out.2)⟩
  rw [HSL.out, HSR.out] at HS
  refine wp_region_held_drew (S := fun W => (convert 27 9 (.slice (some ⟨w.heap.size, 0, none⟩) 32 32)).run Tryd.prog W = .ok (.string sl) W ∧ (convert 27 9 (.slice (some ⟨w.heap.size + 1, 0, none⟩) 32 32)).run Tryd.prog W = .ok (.string sr) W) (by kernel_rfl) (HS.out _ (Below.drew (Below.refl _ _))) (fun hS => ?_)
  refine wpAnyH_take (i := 0) (v := ?_) rfl (by kernel_rfl) (by kernel_rfl) (by kernel_rfl) (fun _ _ _ h => h) (Or.inl ⟨by rfl, ?_⟩) (by assumption) ?_
  rotate_left
  · (intro w hSw; (try dsimp only at hSw); go_simp; try with_reducible rfl)
  simp only [Act.put, List.getElem_toArray, List.getElem_cons_zero, List.setIfInBounds_toArray, List.set_cons_zero, List.set_cons_succ]
  refine wpAnyH_take (i := 1) (v := ?_) rfl (by kernel_rfl) (by kernel_rfl) (by kernel_rfl) (fun _ _ _ h => h) (Or.inl ⟨by rfl, ?_⟩) (by assumption) ?_
  rotate_left
  · (intro w hSw; (try dsimp only at hSw); go_simp; try with_reducible rfl)
  simp only [Act.put, List.getElem_toArray, List.getElem_cons_zero, List.getElem_cons_succ, List.setIfInBounds_toArray, List.set_cons_zero, List.set_cons_succ]
  refine wpAnyH_take (i := 2) (v := ?_) rfl (by kernel_rfl) (by kernel_rfl) (by kernel_rfl) (fun _ _ _ h => h) (Or.inl ⟨by rfl, ?_⟩) (by assumption) ?_
  rotate_left
  · (intro w hSw; (try dsimp only at hSw); go_simp; try with_reducible rfl)
  simp only [Act.put, List.getElem_toArray, List.getElem_cons_zero, List.getElem_cons_succ, List.setIfInBounds_toArray, List.set_cons_zero, List.set_cons_succ]
  refine wpAnyH_take (i := 3) (v := ?_) rfl (by kernel_rfl) (by kernel_rfl) (by kernel_rfl) (fun _ _ _ h => h) (Or.inl ⟨by rfl, ?_⟩) (by assumption) ?_
  rotate_left
  · (intro w hSw; (try dsimp only at hSw); go_simp; try with_reducible rfl)
  simp only [Act.put, List.getElem_toArray, List.getElem_cons_zero, List.getElem_cons_succ, List.setIfInBounds_toArray, List.set_cons_zero, List.set_cons_succ]
  refine wpAnyH_take (i := 4) (v := ?_) rfl (by kernel_rfl) (by kernel_rfl) (by kernel_rfl) (fun _ _ _ h => h) (Or.inl ⟨by rfl, ?_⟩) (by assumption) ?_
  rotate_left
  · (intro w hSw; (try dsimp only at hSw); go_simp; try with_reducible rfl)
  simp only [Act.put, List.getElem_toArray, List.getElem_cons_zero, List.getElem_cons_succ, List.setIfInBounds_toArray, List.set_cons_zero, List.set_cons_succ]
  refine wpAnyH_take (i := 5) (v := ?_) rfl (by kernel_rfl) (by kernel_rfl) (by kernel_rfl) (fun _ _ _ h => h) (Or.inl ⟨by rfl, ?_⟩) (by assumption) ?_
  rotate_left
  · (intro w hSw; (try dsimp only at hSw); go_simp; try with_reducible rfl)
  simp only [Act.put, List.getElem_toArray, List.getElem_cons_zero, List.getElem_cons_succ, List.setIfInBounds_toArray, List.set_cons_zero, List.set_cons_succ]
  refine wpAnyH_take (i := 6) (v := ?_) rfl (by kernel_rfl) (by kernel_rfl) (by kernel_rfl) (fun _ _ _ h => h) (Or.inl ⟨by rfl, ?_⟩) (by assumption) ?_
  rotate_left
  · (intro w hSw; (try dsimp only at hSw); go_simp; try with_reducible rfl)
  simp only [Act.put, List.getElem_toArray, List.getElem_cons_zero, List.getElem_cons_succ, List.setIfInBounds_toArray, List.set_cons_zero, List.set_cons_succ]
  refine wpAnyH_done (by kernel_rfl) ?_ _
  clear hS
  go_wp2_with fail
  go_ret
  exact ⟨rfl, Below.drew HFH.out.2.2.1⟩
set_option maxRecDepth 100000 in
set_option maxHeartbeats 1000000 in
theorem refLeaf_any (z : Int) (s : ByteArray) (w : World) (hs : s.size ≤ 1000) (hz : -9223372036854775808 ≤ z ∧ z ≤ 9223372036854775807) : Calls Tryd.prog 111 #[.int .i64 z, .string s] w fun e w' => e = .returned (dv (leafD z (strB s))) ∧ Below w.heap.size w w' := by
  have HLT : Hid (∀ W, Calls Tryd.prog 126 #[.string s] W fun e w' => e = .returned (.string (⟨#[0]⟩ ++ s)) ∧ w' = W) := fun W => refLeafT_any s W (by omega)
  have HKP : Hid (∀ W, Calls Tryd.prog 124 #[.string (⟨#[0]⟩ ++ s), .int .i64 z] W fun e w' => e = .returned (dv (leafD z (strB s))) ∧ Below W.heap.size W w') := fun W => by
    have h := refKept_any (⟨#[0]⟩ ++ s) z W (by rw [ByteArray.size_append]; show 1 + s.size ≤ 2000; omega) hz.1 hz.2
    rw [show keptB (shaB (strB (⟨#[0]⟩ ++ s))) (min (max z 0) 256).toNat 32 = leafD z (strB s) from by rw [strB_app]; rfl] at h
    exact h
  obtain ⟨d, HD⟩ : ∃ d, Hid (leafD z (strB s) = d) := ⟨_, rfl⟩
  have HDL : Hid (d.length = 32) := by show _ = _; rw [← HD.out]; exact leafD_length _ _
  rw [HD.out] at HKP ⊢
  obtain ⟨s1, HS1⟩ : ∃ q, Hid ((⟨#[0]⟩ : ByteArray) ++ s = q) := ⟨_, rfl⟩
  rw [HS1.out] at HLT HKP
  clear hs hz
  go_enter Tryd.func111, Tryd.ntmps111
  have HN0 : Hid ((w.alloc (.cells #[Value.int IntKind.u8 0, Value.int IntKind.u8 0, Value.int IntKind.u8 0, Value.int IntKind.u8 0, Value.int IntKind.u8 0, Value.int IntKind.u8 0, Value.int IntKind.u8 0, Value.int IntKind.u8 0, Value.int IntKind.u8 0, Value.int IntKind.u8 0, Value.int IntKind.u8 0, Value.int IntKind.u8 0, Value.int IntKind.u8 0, Value.int IntKind.u8 0, Value.int IntKind.u8 0, Value.int IntKind.u8 0, Value.int IntKind.u8 0, Value.int IntKind.u8 0, Value.int IntKind.u8 0, Value.int IntKind.u8 0, Value.int IntKind.u8 0, Value.int IntKind.u8 0, Value.int IntKind.u8 0, Value.int IntKind.u8 0, Value.int IntKind.u8 0, Value.int IntKind.u8 0, Value.int IntKind.u8 0, Value.int IntKind.u8 0, Value.int IntKind.u8 0, Value.int IntKind.u8 0, Value.int IntKind.u8 0, Value.int IntKind.u8 0] 46)).heap[w.heap.size]? = some (.cells #[Value.int IntKind.u8 0, Value.int IntKind.u8 0, Value.int IntKind.u8 0, Value.int IntKind.u8 0, Value.int IntKind.u8 0, Value.int IntKind.u8 0, Value.int IntKind.u8 0, Value.int IntKind.u8 0, Value.int IntKind.u8 0, Value.int IntKind.u8 0, Value.int IntKind.u8 0, Value.int IntKind.u8 0, Value.int IntKind.u8 0, Value.int IntKind.u8 0, Value.int IntKind.u8 0, Value.int IntKind.u8 0, Value.int IntKind.u8 0, Value.int IntKind.u8 0, Value.int IntKind.u8 0, Value.int IntKind.u8 0, Value.int IntKind.u8 0, Value.int IntKind.u8 0, Value.int IntKind.u8 0, Value.int IntKind.u8 0, Value.int IntKind.u8 0, Value.int IntKind.u8 0, Value.int IntKind.u8 0, Value.int IntKind.u8 0, Value.int IntKind.u8 0, Value.int IntKind.u8 0, Value.int IntKind.u8 0, Value.int IntKind.u8 0] 46 (0, 0))) := heap_alloc_new w _
  have HB0 : Hid (Below w.heap.size w (w.alloc (.cells #[Value.int IntKind.u8 0, Value.int IntKind.u8 0, Value.int IntKind.u8 0, Value.int IntKind.u8 0, Value.int IntKind.u8 0, Value.int IntKind.u8 0, Value.int IntKind.u8 0, Value.int IntKind.u8 0, Value.int IntKind.u8 0, Value.int IntKind.u8 0, Value.int IntKind.u8 0, Value.int IntKind.u8 0, Value.int IntKind.u8 0, Value.int IntKind.u8 0, Value.int IntKind.u8 0, Value.int IntKind.u8 0, Value.int IntKind.u8 0, Value.int IntKind.u8 0, Value.int IntKind.u8 0, Value.int IntKind.u8 0, Value.int IntKind.u8 0, Value.int IntKind.u8 0, Value.int IntKind.u8 0, Value.int IntKind.u8 0, Value.int IntKind.u8 0, Value.int IntKind.u8 0, Value.int IntKind.u8 0, Value.int IntKind.u8 0, Value.int IntKind.u8 0, Value.int IntKind.u8 0, Value.int IntKind.u8 0, Value.int IntKind.u8 0] 46))) := bel_alloc w _
  go_wp2_with fail
  obtain ⟨W0, HW0⟩ : ∃ W, Hid (w.alloc (.cells #[Value.int IntKind.u8 0, Value.int IntKind.u8 0, Value.int IntKind.u8 0, Value.int IntKind.u8 0, Value.int IntKind.u8 0, Value.int IntKind.u8 0, Value.int IntKind.u8 0, Value.int IntKind.u8 0, Value.int IntKind.u8 0, Value.int IntKind.u8 0, Value.int IntKind.u8 0, Value.int IntKind.u8 0, Value.int IntKind.u8 0, Value.int IntKind.u8 0, Value.int IntKind.u8 0, Value.int IntKind.u8 0, Value.int IntKind.u8 0, Value.int IntKind.u8 0, Value.int IntKind.u8 0, Value.int IntKind.u8 0, Value.int IntKind.u8 0, Value.int IntKind.u8 0, Value.int IntKind.u8 0, Value.int IntKind.u8 0, Value.int IntKind.u8 0, Value.int IntKind.u8 0, Value.int IntKind.u8 0, Value.int IntKind.u8 0, Value.int IntKind.u8 0, Value.int IntKind.u8 0, Value.int IntKind.u8 0, Value.int IntKind.u8 0] 46) = W) := ⟨_, rfl⟩
  rw [HW0.out] at HN0 HB0 ⊢
  refine (HLT.out _).mono ?_
  rintro e w1 ⟨rfl, rfl⟩
  go_wp2_with fail
  refine (HKP.out _).mono ?_
  rintro e w2 ⟨rfl, hb2⟩
  have HN2 : Hid (w2.heap[w.heap.size]? = some (.cells #[Value.int IntKind.u8 0, Value.int IntKind.u8 0, Value.int IntKind.u8 0, Value.int IntKind.u8 0, Value.int IntKind.u8 0, Value.int IntKind.u8 0, Value.int IntKind.u8 0, Value.int IntKind.u8 0, Value.int IntKind.u8 0, Value.int IntKind.u8 0, Value.int IntKind.u8 0, Value.int IntKind.u8 0, Value.int IntKind.u8 0, Value.int IntKind.u8 0, Value.int IntKind.u8 0, Value.int IntKind.u8 0, Value.int IntKind.u8 0, Value.int IntKind.u8 0, Value.int IntKind.u8 0, Value.int IntKind.u8 0, Value.int IntKind.u8 0, Value.int IntKind.u8 0, Value.int IntKind.u8 0, Value.int IntKind.u8 0, Value.int IntKind.u8 0, Value.int IntKind.u8 0, Value.int IntKind.u8 0, Value.int IntKind.u8 0, Value.int IntKind.u8 0, Value.int IntKind.u8 0, Value.int IntKind.u8 0, Value.int IntKind.u8 0] 46 (0, 0))) := (hb2.block _ (Array.getElem?_eq_some_iff.1 HN0.out).1).trans HN0.out
  have HB2 : Hid (Below w.heap.size w w2) := HB0.out.trans (hb2.mono HB0.out.size)
  clear hb2
  unfold dv
  go_wp2_with (refine wpList_store_row rfl 46 (.tmp 4) (.tmp 8) rfl w.heap.size (cellsOf d).toArray rfl rfl 46 _ HN2.out (by rw [size24, dig_size HDL.out]) (by rw [dig_size HDL.out]; rfl) (cells_all _) ?_)
  go_wp2_with fail
  refine bodyPost_ret (results_cell_row rfl _ _ w.heap.size 46 (cellsOf d).toArray (0, 0) _ rfl (setRow_heap _ _ _ _ _ _ HN2.out) Tryd.underlying46 rfl (by rw [size24, dig_size HDL.out])) rfl ?_
  exact ⟨rfl, below_row HB2.out (Nat.le_refl _) _⟩
set_option maxRecDepth 100000 in
set_option maxHeartbeats 1000000 in
theorem refNode_any (z : Int) (l r : List UInt8) (w : World) (hl : l.length = 32) (hr : r.length = 32) (hz : -9223372036854775808 ≤ z ∧ z ≤ 9223372036854775807) : Calls Tryd.prog 112 #[.int .i64 z, dv l, dv r] w fun e w' => e = .returned (dv (nodeD z l r)) ∧ Below w.heap.size w w' := by
  have HNT : Hid (∀ W, Calls Tryd.prog 127 #[.agg (cellsOf l).toArray, .agg (cellsOf r).toArray] W fun e w' => e = .returned (.string ((⟨#[1]⟩ ++ digS l) ++ digS r)) ∧ Below W.heap.size W w') := fun W => refNodeT_any l r W hl hr
  have HKP : Hid (∀ W, Calls Tryd.prog 124 #[.string ((⟨#[1]⟩ ++ digS l) ++ digS r), .int .i64 z] W fun e w' => e = .returned (dv (nodeD z l r)) ∧ Below W.heap.size W w') := fun W => by
    have h := refKept_any ((⟨#[1]⟩ ++ digS l) ++ digS r) z W (by rw [ByteArray.size_append, ByteArray.size_append]; show 1 + l.toArray.size + r.toArray.size ≤ 2000; simp; omega) hz.1 hz.2
    rw [show keptB (shaB (strB ((⟨#[1]⟩ ++ digS l) ++ digS r))) (min (max z 0) 256).toNat 32 = nodeD z l r from by rw [strB_app, strB_app, digS, digS, strB_mk, strB_mk]; rfl] at h
    exact h
  obtain ⟨d, HD⟩ : ∃ d, Hid (nodeD z l r = d) := ⟨_, rfl⟩
  have HDL : Hid (d.length = 32) := by show _ = _; rw [← HD.out]; exact nodeD_length _ _ _
  rw [HD.out] at HKP ⊢
  obtain ⟨s1, HS1⟩ : ∃ q, Hid ((⟨#[1]⟩ ++ digS l) ++ digS r = q) := ⟨_, rfl⟩
  rw [HS1.out] at HNT HKP
  have HIL : Hid ((Tryd.prog.info? 46).map (·.size) = some (cellsOf l).toArray.size) := by show _ = _; rw [size24, dig_size hl]
  have HIR : Hid ((Tryd.prog.info? 46).map (·.size) = some (cellsOf r).toArray.size) := by show _ = _; rw [size24, dig_size hr]
  clear hl hr hz
  unfold dv
  obtain ⟨cl, HCL⟩ : ∃ c, Hid ((cellsOf l).toArray = c) := ⟨_, rfl⟩
  obtain ⟨cr, HCR⟩ : ∃ c, Hid ((cellsOf r).toArray = c) := ⟨_, rfl⟩
  rw [HCL.out] at HIL HNT ⊢
  rw [HCR.out] at HIR HNT ⊢
  have HF := frame3a w (Obj.cells cl 46) (Obj.cells cr 46) (Obj.cells #[Value.int IntKind.u8 0, Value.int IntKind.u8 0, Value.int IntKind.u8 0, Value.int IntKind.u8 0, Value.int IntKind.u8 0, Value.int IntKind.u8 0, Value.int IntKind.u8 0, Value.int IntKind.u8 0, Value.int IntKind.u8 0, Value.int IntKind.u8 0, Value.int IntKind.u8 0, Value.int IntKind.u8 0, Value.int IntKind.u8 0, Value.int IntKind.u8 0, Value.int IntKind.u8 0, Value.int IntKind.u8 0, Value.int IntKind.u8 0, Value.int IntKind.u8 0, Value.int IntKind.u8 0, Value.int IntKind.u8 0, Value.int IntKind.u8 0, Value.int IntKind.u8 0, Value.int IntKind.u8 0, Value.int IntKind.u8 0, Value.int IntKind.u8 0, Value.int IntKind.u8 0, Value.int IntKind.u8 0, Value.int IntKind.u8 0, Value.int IntKind.u8 0, Value.int IntKind.u8 0, Value.int IntKind.u8 0, Value.int IntKind.u8 0] 46)
  go_enter Tryd.func112, Tryd.ntmps112
  have HFH : Hid _ := HF
  clear HF
  go_wp2_with (first | (refine wpList_load_row rfl 46 (.tmp 4) rfl w.heap.size rfl 46 cl (0, 0) _ HFH.out.1 Tryd.underlying46 rfl HIL.out ?_) | (refine wpList_load_row rfl 46 (.tmp 5) rfl (w.heap.size + 1) rfl 46 cr (0, 0) _ HFH.out.2.1 Tryd.underlying46 rfl HIR.out ?_))
  obtain ⟨W0, HW0⟩ : ∃ W, Hid (((w.alloc (Obj.cells cl 46)).alloc (Obj.cells cr 46)).alloc (Obj.cells #[Value.int IntKind.u8 0, Value.int IntKind.u8 0, Value.int IntKind.u8 0, Value.int IntKind.u8 0, Value.int IntKind.u8 0, Value.int IntKind.u8 0, Value.int IntKind.u8 0, Value.int IntKind.u8 0, Value.int IntKind.u8 0, Value.int IntKind.u8 0, Value.int IntKind.u8 0, Value.int IntKind.u8 0, Value.int IntKind.u8 0, Value.int IntKind.u8 0, Value.int IntKind.u8 0, Value.int IntKind.u8 0, Value.int IntKind.u8 0, Value.int IntKind.u8 0, Value.int IntKind.u8 0, Value.int IntKind.u8 0, Value.int IntKind.u8 0, Value.int IntKind.u8 0, Value.int IntKind.u8 0, Value.int IntKind.u8 0, Value.int IntKind.u8 0, Value.int IntKind.u8 0, Value.int IntKind.u8 0, Value.int IntKind.u8 0, Value.int IntKind.u8 0, Value.int IntKind.u8 0, Value.int IntKind.u8 0, Value.int IntKind.u8 0] 46) = W) := ⟨_, rfl⟩
  rw [HW0.out] at HFH ⊢
  refine (HNT.out _).mono ?_
  rintro e w1 ⟨rfl, hb1⟩
  have HB1 : Hid (Below W0.heap.size W0 w1) := hb1
  clear hb1
  go_wp2_with fail
  refine (HKP.out _).mono ?_
  rintro e w2 ⟨rfl, hb2⟩
  have HB2 : Hid (Below W0.heap.size W0 w2) := HB1.out.trans (hb2.mono HB1.out.size)
  have HN2 : Hid (w2.heap[w.heap.size + 1 + 1]? = some (.cells #[Value.int IntKind.u8 0, Value.int IntKind.u8 0, Value.int IntKind.u8 0, Value.int IntKind.u8 0, Value.int IntKind.u8 0, Value.int IntKind.u8 0, Value.int IntKind.u8 0, Value.int IntKind.u8 0, Value.int IntKind.u8 0, Value.int IntKind.u8 0, Value.int IntKind.u8 0, Value.int IntKind.u8 0, Value.int IntKind.u8 0, Value.int IntKind.u8 0, Value.int IntKind.u8 0, Value.int IntKind.u8 0, Value.int IntKind.u8 0, Value.int IntKind.u8 0, Value.int IntKind.u8 0, Value.int IntKind.u8 0, Value.int IntKind.u8 0, Value.int IntKind.u8 0, Value.int IntKind.u8 0, Value.int IntKind.u8 0, Value.int IntKind.u8 0, Value.int IntKind.u8 0, Value.int IntKind.u8 0, Value.int IntKind.u8 0, Value.int IntKind.u8 0, Value.int IntKind.u8 0, Value.int IntKind.u8 0, Value.int IntKind.u8 0] 46 (0, 0))) := (HB2.out.block _ (by rw [HFH.out.2.2.2.2]; omega)).trans HFH.out.2.2.1
  clear hb2
  unfold dv
  go_wp2_with (refine wpList_store_row rfl 46 (.tmp 6) (.tmp 11) rfl (w.heap.size + 1 + 1) (cellsOf d).toArray rfl rfl 46 _ HN2.out (by rw [size24, dig_size HDL.out]) (by rw [dig_size HDL.out]; rfl) (cells_all _) ?_)
  go_wp2_with fail
  refine bodyPost_ret (results_cell_row rfl _ _ (w.heap.size + 1 + 1) 46 (cellsOf d).toArray (0, 0) _ rfl (setRow_heap _ _ _ _ _ _ HN2.out) Tryd.underlying46 rfl (by rw [size24, dig_size HDL.out])) rfl ?_
  exact ⟨rfl, below_row (HFH.out.2.2.2.1.trans (HB2.out.mono (by rw [HFH.out.2.2.2.2]; omega))) (by omega) _⟩
end Go.Proofs.YtecacjddggljgaaDoor.Sm
