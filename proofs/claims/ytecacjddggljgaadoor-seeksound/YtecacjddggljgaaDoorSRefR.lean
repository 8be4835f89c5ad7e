/-
  What marlstoneref05.Root answers: a contract over this translation.
-/
import Derived.Test.YtecacjddggljgaaDoorSTextsW
import Derived.Test.YtecacjddggljgaaDoorPartCJ
namespace Go.Proofs.YtecacjddggljgaaDoor.Sm
open Go.RowKit
theorem z_len : (#[Value.int IntKind.u8 0, Value.int IntKind.u8 0, Value.int IntKind.u8 0, Value.int IntKind.u8 0, Value.int IntKind.u8 0, Value.int IntKind.u8 0, Value.int IntKind.u8 0, Value.int IntKind.u8 0, Value.int IntKind.u8 0, Value.int IntKind.u8 0, Value.int IntKind.u8 0, Value.int IntKind.u8 0, Value.int IntKind.u8 0, Value.int IntKind.u8 0, Value.int IntKind.u8 0, Value.int IntKind.u8 0, Value.int IntKind.u8 0, Value.int IntKind.u8 0, Value.int IntKind.u8 0, Value.int IntKind.u8 0, Value.int IntKind.u8 0, Value.int IntKind.u8 0, Value.int IntKind.u8 0, Value.int IntKind.u8 0, Value.int IntKind.u8 0, Value.int IntKind.u8 0, Value.int IntKind.u8 0, Value.int IntKind.u8 0, Value.int IntKind.u8 0, Value.int IntKind.u8 0, Value.int IntKind.u8 0, Value.int IntKind.u8 0] : Array Value).size = 32 := rfl
set_option maxRecDepth 100000 in
set_option maxHeartbeats 4000000 in
theorem refRoot_zero (z : Int) (ao : Option Addr) (c : Nat) (w : World) (hz : -9223372036854775808 ≤ z ∧ z ≤ 9223372036854775807) : Calls Tryd.prog 104 #[.int .i64 z, .slice ao 0 c] w fun e w' => e = .returned (dv (rootD z [])) ∧ Below w.heap.size w w' := by
  have HKP : Hid (∀ W, Calls Tryd.prog 124 #[.string ⟨#[]⟩, .int .i64 z] W fun e w' => e = .returned (dv (rootD z [])) ∧ Below W.heap.size W w') := fun W => refKept_any ⟨#[]⟩ z W (by show 0 ≤ 2000; omega) hz.1 hz.2
  obtain ⟨d, HD⟩ : ∃ d, Hid (rootD z [] = d) := ⟨_, rfl⟩
  have HDL : Hid (d.length = 32) := by show _ = _; rw [← HD.out]; exact rootD_length _ _
  rw [HD.out] at HKP ⊢
  clear hz
  go_enter Tryd.func104, Tryd.ntmps104
  have HN0 : Hid ((w.alloc (.cells #[Value.int IntKind.u8 0, Value.int IntKind.u8 0, Value.int IntKind.u8 0, Value.int IntKind.u8 0, Value.int IntKind.u8 0, Value.int IntKind.u8 0, Value.int IntKind.u8 0, Value.int IntKind.u8 0, Value.int IntKind.u8 0, Value.int IntKind.u8 0, Value.int IntKind.u8 0, Value.int IntKind.u8 0, Value.int IntKind.u8 0, Value.int IntKind.u8 0, Value.int IntKind.u8 0, Value.int IntKind.u8 0, Value.int IntKind.u8 0, Value.int IntKind.u8 0, Value.int IntKind.u8 0, Value.int IntKind.u8 0, Value.int IntKind.u8 0, Value.int IntKind.u8 0, Value.int IntKind.u8 0, Value.int IntKind.u8 0, Value.int IntKind.u8 0, Value.int IntKind.u8 0, Value.int IntKind.u8 0, Value.int IntKind.u8 0, Value.int IntKind.u8 0, Value.int IntKind.u8 0, Value.int IntKind.u8 0, Value.int IntKind.u8 0] 46)).heap[w.heap.size]? = some (.cells #[Value.int IntKind.u8 0, Value.int IntKind.u8 0, Value.int IntKind.u8 0, Value.int IntKind.u8 0, Value.int IntKind.u8 0, Value.int IntKind.u8 0, Value.int IntKind.u8 0, Value.int IntKind.u8 0, Value.int IntKind.u8 0, Value.int IntKind.u8 0, Value.int IntKind.u8 0, Value.int IntKind.u8 0, Value.int IntKind.u8 0, Value.int IntKind.u8 0, Value.int IntKind.u8 0, Value.int IntKind.u8 0, Value.int IntKind.u8 0, Value.int IntKind.u8 0, Value.int IntKind.u8 0, Value.int IntKind.u8 0, Value.int IntKind.u8 0, Value.int IntKind.u8 0, Value.int IntKind.u8 0, Value.int IntKind.u8 0, Value.int IntKind.u8 0, Value.int IntKind.u8 0, Value.int IntKind.u8 0, Value.int IntKind.u8 0, Value.int IntKind.u8 0, Value.int IntKind.u8 0, Value.int IntKind.u8 0, Value.int IntKind.u8 0] 46 (0, 0))) := heap_alloc_new w _
  have HB0 : Hid (Below w.heap.size w (w.alloc (.cells #[Value.int IntKind.u8 0, Value.int IntKind.u8 0, Value.int IntKind.u8 0, Value.int IntKind.u8 0, Value.int IntKind.u8 0, Value.int IntKind.u8 0, Value.int IntKind.u8 0, Value.int IntKind.u8 0, Value.int IntKind.u8 0, Value.int IntKind.u8 0, Value.int IntKind.u8 0, Value.int IntKind.u8 0, Value.int IntKind.u8 0, Value.int IntKind.u8 0, Value.int IntKind.u8 0, Value.int IntKind.u8 0, Value.int IntKind.u8 0, Value.int IntKind.u8 0, Value.int IntKind.u8 0, Value.int IntKind.u8 0, Value.int IntKind.u8 0, Value.int IntKind.u8 0, Value.int IntKind.u8 0, Value.int IntKind.u8 0, Value.int IntKind.u8 0, Value.int IntKind.u8 0, Value.int IntKind.u8 0, Value.int IntKind.u8 0, Value.int IntKind.u8 0, Value.int IntKind.u8 0, Value.int IntKind.u8 0, Value.int IntKind.u8 0] 46))) := bel_alloc w _
  go_wp2_with fail
  obtain ⟨W0, HW0⟩ : ∃ W, Hid (w.alloc (.cells #[Value.int IntKind.u8 0, Value.int IntKind.u8 0, Value.int IntKind.u8 0, Value.int IntKind.u8 0, Value.int IntKind.u8 0, Value.int IntKind.u8 0, Value.int IntKind.u8 0, Value.int IntKind.u8 0, Value.int IntKind.u8 0, Value.int IntKind.u8 0, Value.int IntKind.u8 0, Value.int IntKind.u8 0, Value.int IntKind.u8 0, Value.int IntKind.u8 0, Value.int IntKind.u8 0, Value.int IntKind.u8 0, Value.int IntKind.u8 0, Value.int IntKind.u8 0, Value.int IntKind.u8 0, Value.int IntKind.u8 0, Value.int IntKind.u8 0, Value.int IntKind.u8 0, Value.int IntKind.u8 0, Value.int IntKind.u8 0, Value.int IntKind.u8 0, Value.int IntKind.u8 0, Value.int IntKind.u8 0, Value.int IntKind.u8 0, Value.int IntKind.u8 0, Value.int IntKind.u8 0, Value.int IntKind.u8 0, Value.int IntKind.u8 0] 46) = W) := ⟨_, rfl⟩
  rw [HW0.out] at HN0 HB0 ⊢
  refine (HKP.out _).mono ?_
  rintro e w2 ⟨rfl, hb2⟩
  have HN2 : Hid (w2.heap[w.heap.size]? = some (.cells #[Value.int IntKind.u8 0, Value.int IntKind.u8 0, Value.int IntKind.u8 0, Value.int IntKind.u8 0, Value.int IntKind.u8 0, Value.int IntKind.u8 0, Value.int IntKind.u8 0, Value.int IntKind.u8 0, Value.int IntKind.u8 0, Value.int IntKind.u8 0, Value.int IntKind.u8 0, Value.int IntKind.u8 0, Value.int IntKind.u8 0, Value.int IntKind.u8 0, Value.int IntKind.u8 0, Value.int IntKind.u8 0, Value.int IntKind.u8 0, Value.int IntKind.u8 0, Value.int IntKind.u8 0, Value.int IntKind.u8 0, Value.int IntKind.u8 0, Value.int IntKind.u8 0, Value.int IntKind.u8 0, Value.int IntKind.u8 0, Value.int IntKind.u8 0, Value.int IntKind.u8 0, Value.int IntKind.u8 0, Value.int IntKind.u8 0, Value.int IntKind.u8 0, Value.int IntKind.u8 0, Value.int IntKind.u8 0, Value.int IntKind.u8 0] 46 (0, 0))) := (hb2.block _ (Array.getElem?_eq_some_iff.1 HN0.out).1).trans HN0.out
  have HB2 : Hid (Below w.heap.size w w2) := HB0.out.trans (hb2.mono HB0.out.size)
  clear hb2
  unfold dv
  go_wp2_with (refine wpList_store_row rfl 46 (.tmp 4) (.tmp 12) rfl w.heap.size (cellsOf d).toArray rfl rfl 46 _ HN2.out (by rw [size24, dig_size HDL.out]) (by rw [dig_size HDL.out]; rfl) (cells_all _) ?_)
  go_wp2_with fail
  refine bodyPost_ret (results_cell_row rfl _ _ w.heap.size 46 (cellsOf d).toArray (0, 0) _ rfl (setRow_heap _ _ _ _ _ _ HN2.out) Tryd.underlying46 rfl (by rw [size24, dig_size HDL.out])) rfl ?_
  exact ⟨rfl, below_row HB2.out (Nat.le_refl _) _⟩
set_option maxRecDepth 100000 in
set_option maxHeartbeats 4000000 in
theorem refRoot_one (z : Int) (b off c : Nat) (s : ByteArray) (w : World) (hc : w.cell? ⟨b, off, none⟩ = some (.string s)) (hs : s.size ≤ 1000) (hz : -9223372036854775808 ≤ z ∧ z ≤ 9223372036854775807) : Calls Tryd.prog 104 #[.int .i64 z, .slice (some ⟨b, off, none⟩) 1 c] w fun e w' => e = .returned (dv (rootD z [strB s])) ∧ Below w.heap.size w w' := by
  have HLF : Hid (∀ W, Calls Tryd.prog 111 #[.int .i64 z, .string s] W fun e w' => e = .returned (dv (rootD z [strB s])) ∧ Below W.heap.size W w') := fun W => by rw [rootD_one]; exact refLeaf_any z s W hs hz
  obtain ⟨d, HD⟩ : ∃ d, Hid (rootD z [strB s] = d) := ⟨_, rfl⟩
  have HDL : Hid (d.length = 32) := by show _ = _; rw [← HD.out]; exact rootD_length _ _
  rw [HD.out] at HLF ⊢
  have hc0 : (w.alloc (.cells #[Value.int IntKind.u8 0, Value.int IntKind.u8 0, Value.int IntKind.u8 0, Value.int IntKind.u8 0, Value.int IntKind.u8 0, Value.int IntKind.u8 0, Value.int IntKind.u8 0, Value.int IntKind.u8 0, Value.int IntKind.u8 0, Value.int IntKind.u8 0, Value.int IntKind.u8 0, Value.int IntKind.u8 0, Value.int IntKind.u8 0, Value.int IntKind.u8 0, Value.int IntKind.u8 0, Value.int IntKind.u8 0, Value.int IntKind.u8 0, Value.int IntKind.u8 0, Value.int IntKind.u8 0, Value.int IntKind.u8 0, Value.int IntKind.u8 0, Value.int IntKind.u8 0, Value.int IntKind.u8 0, Value.int IntKind.u8 0, Value.int IntKind.u8 0, Value.int IntKind.u8 0, Value.int IntKind.u8 0, Value.int IntKind.u8 0, Value.int IntKind.u8 0, Value.int IntKind.u8 0, Value.int IntKind.u8 0, Value.int IntKind.u8 0] 46)).cell? ⟨b, off, none⟩ = some (.string s) := bel_cell2 (bel_alloc w _) (Nat.le_refl _) hc
  clear hz hs hc
  go_enter Tryd.func104, Tryd.ntmps104
  have HN0 : Hid ((w.alloc (.cells #[Value.int IntKind.u8 0, Value.int IntKind.u8 0, Value.int IntKind.u8 0, Value.int IntKind.u8 0, Value.int IntKind.u8 0, Value.int IntKind.u8 0, Value.int IntKind.u8 0, Value.int IntKind.u8 0, Value.int IntKind.u8 0, Value.int IntKind.u8 0, Value.int IntKind.u8 0, Value.int IntKind.u8 0, Value.int IntKind.u8 0, Value.int IntKind.u8 0, Value.int IntKind.u8 0, Value.int IntKind.u8 0, Value.int IntKind.u8 0, Value.int IntKind.u8 0, Value.int IntKind.u8 0, Value.int IntKind.u8 0, Value.int IntKind.u8 0, Value.int IntKind.u8 0, Value.int IntKind.u8 0, Value.int IntKind.u8 0, Value.int IntKind.u8 0, Value.int IntKind.u8 0, Value.int IntKind.u8 0, Value.int IntKind.u8 0, Value.int IntKind.u8 0, Value.int IntKind.u8 0, Value.int IntKind.u8 0, Value.int IntKind.u8 0] 46)).heap[w.heap.size]? = some (.cells #[Value.int IntKind.u8 0, Value.int IntKind.u8 0, Value.int IntKind.u8 0, Value.int IntKind.u8 0, Value.int IntKind.u8 0, Value.int IntKind.u8 0, Value.int IntKind.u8 0, Value.int IntKind.u8 0, Value.int IntKind.u8 0, Value.int IntKind.u8 0, Value.int IntKind.u8 0, Value.int IntKind.u8 0, Value.int IntKind.u8 0, Value.int IntKind.u8 0, Value.int IntKind.u8 0, Value.int IntKind.u8 0, Value.int IntKind.u8 0, Value.int IntKind.u8 0, Value.int IntKind.u8 0, Value.int IntKind.u8 0, Value.int IntKind.u8 0, Value.int IntKind.u8 0, Value.int IntKind.u8 0, Value.int IntKind.u8 0, Value.int IntKind.u8 0, Value.int IntKind.u8 0, Value.int IntKind.u8 0, Value.int IntKind.u8 0, Value.int IntKind.u8 0, Value.int IntKind.u8 0, Value.int IntKind.u8 0, Value.int IntKind.u8 0] 46 (0, 0))) := heap_alloc_new w _
  have HB0 : Hid (Below w.heap.size w (w.alloc (.cells #[Value.int IntKind.u8 0, Value.int IntKind.u8 0, Value.int IntKind.u8 0, Value.int IntKind.u8 0, Value.int IntKind.u8 0, Value.int IntKind.u8 0, Value.int IntKind.u8 0, Value.int IntKind.u8 0, Value.int IntKind.u8 0, Value.int IntKind.u8 0, Value.int IntKind.u8 0, Value.int IntKind.u8 0, Value.int IntKind.u8 0, Value.int IntKind.u8 0, Value.int IntKind.u8 0, Value.int IntKind.u8 0, Value.int IntKind.u8 0, Value.int IntKind.u8 0, Value.int IntKind.u8 0, Value.int IntKind.u8 0, Value.int IntKind.u8 0, Value.int IntKind.u8 0, Value.int IntKind.u8 0, Value.int IntKind.u8 0, Value.int IntKind.u8 0, Value.int IntKind.u8 0, Value.int IntKind.u8 0, Value.int IntKind.u8 0, Value.int IntKind.u8 0, Value.int IntKind.u8 0, Value.int IntKind.u8 0, Value.int IntKind.u8 0] 46))) := bel_alloc w _
  go_wp2_with fail
  obtain ⟨W0, HW0⟩ : ∃ W, Hid (w.alloc (.cells #[Value.int IntKind.u8 0, Value.int IntKind.u8 0, Value.int IntKind.u8 0, Value.int IntKind.u8 0, Value.int IntKind.u8 0, Value.int IntKind.u8 0, Value.int IntKind.u8 0, Value.int IntKind.u8 0, Value.int IntKind.u8 0, Value.int IntKind.u8 0, Value.int IntKind.u8 0, Value.int IntKind.u8 0, Value.int IntKind.u8 0, Value.int IntKind.u8 0, Value.int IntKind.u8 0, Value.int IntKind.u8 0, Value.int IntKind.u8 0, Value.int IntKind.u8 0, Value.int IntKind.u8 0, Value.int IntKind.u8 0, Value.int IntKind.u8 0, Value.int IntKind.u8 0, Value.int IntKind.u8 0, Value.int IntKind.u8 0, Value.int IntKind.u8 0, Value.int IntKind.u8 0, Value.int IntKind.u8 0, Value.int IntKind.u8 0, Value.int IntKind.u8 0, Value.int IntKind.u8 0, Value.int IntKind.u8 0, Value.int IntKind.u8 0] 46) = W) := ⟨_, rfl⟩
  rw [HW0.out] at HN0 HB0 ⊢
  refine (HLF.out _).mono ?_
  rintro e w2 ⟨rfl, hb2⟩
  have HN2 : Hid (w2.heap[w.heap.size]? = some (.cells #[Value.int IntKind.u8 0, Value.int IntKind.u8 0, Value.int IntKind.u8 0, Value.int IntKind.u8 0, Value.int IntKind.u8 0, Value.int IntKind.u8 0, Value.int IntKind.u8 0, Value.int IntKind.u8 0, Value.int IntKind.u8 0, Value.int IntKind.u8 0, Value.int IntKind.u8 0, Value.int IntKind.u8 0, Value.int IntKind.u8 0, Value.int IntKind.u8 0, Value.int IntKind.u8 0, Value.int IntKind.u8 0, Value.int IntKind.u8 0, Value.int IntKind.u8 0, Value.int IntKind.u8 0, Value.int IntKind.u8 0, Value.int IntKind.u8 0, Value.int IntKind.u8 0, Value.int IntKind.u8 0, Value.int IntKind.u8 0, Value.int IntKind.u8 0, Value.int IntKind.u8 0, Value.int IntKind.u8 0, Value.int IntKind.u8 0, Value.int IntKind.u8 0, Value.int IntKind.u8 0, Value.int IntKind.u8 0, Value.int IntKind.u8 0] 46 (0, 0))) := (hb2.block _ (Array.getElem?_eq_some_iff.1 HN0.out).1).trans HN0.out
  have HB2 : Hid (Below w.heap.size w w2) := HB0.out.trans (hb2.mono HB0.out.size)
  clear hb2 hc0
  unfold dv
  go_wp2_with (refine wpList_store_row rfl 46 (.tmp 4) (.tmp 20) rfl w.heap.size (cellsOf d).toArray rfl rfl 46 _ HN2.out (by rw [size24, dig_size HDL.out]) (by rw [dig_size HDL.out]; rfl) (cells_all _) ?_)
  go_wp2_with fail
  refine bodyPost_ret (results_cell_row rfl _ _ w.heap.size 46 (cellsOf d).toArray (0, 0) _ rfl (setRow_heap _ _ _ _ _ _ HN2.out) Tryd.underlying46 rfl (by rw [size24, dig_size HDL.out])) rfl ?_
  exact ⟨rfl, below_row HB2.out (Nat.le_refl _) _⟩
set_option maxRecDepth 100000 in
set_option maxHeartbeats 4000000 in
theorem refRoot_many (z : Int) (b off n c : Nat) (w : World) (l r : List UInt8) (h2 : 2 ≤ n) (hn : n ≤ 1000) (hnc : n ≤ c) (hl : l.length = 32) (hr : r.length = 32) (hz : -9223372036854775808 ≤ z ∧ z ≤ 9223372036854775807)
    (HA : Hid (∀ W, Below w.heap.size w W → Calls Tryd.prog 104 #[.int .i64 z, .slice (some ⟨b, off, none⟩) (halfN n) c] W fun e w' => e = .returned (dv l) ∧ Below W.heap.size W w'))
    (HB : Hid (∀ W, Below w.heap.size w W → Calls Tryd.prog 104 #[.int .i64 z, .slice (some ⟨b, off + halfN n, none⟩) (n - halfN n) (c - halfN n)] W fun e w' => e = .returned (dv r) ∧ Below W.heap.size W w')) :
    Calls Tryd.prog 104 #[.int .i64 z, .slice (some ⟨b, off, none⟩) n c] w fun e w' => e = .returned (dv (nodeD z l r)) ∧ Below w.heap.size w w' := by
  have HHF : Hid (∀ W, Calls Tryd.prog 103 #[.int .i64 (n : Int)] W fun e w' => e = .returned (.int .i64 ((halfN n : Nat) : Int)) ∧ w' = W) := fun W => refHalf_any n W h2 (by omega)
  obtain ⟨s1, s2, -⟩ := halfN_spec n h2 (by omega)
  obtain ⟨k, HK⟩ : ∃ k, Hid (halfN n = k) := ⟨_, rfl⟩
  rw [HK.out] at HHF HA HB s1 s2
  have HND : Hid (∀ W, Calls Tryd.prog 112 #[.int .i64 z, .agg (cellsOf l).toArray, .agg (cellsOf r).toArray] W fun e w' => e = .returned (dv (nodeD z l r)) ∧ Below W.heap.size W w') := fun W => refNode_any z l r W hl hr hz
  obtain ⟨d, HD⟩ : ∃ d, Hid (nodeD z l r = d) := ⟨_, rfl⟩
  have HDL : Hid (d.length = 32) := by show _ = _; rw [← HD.out]; exact nodeD_length _ _ _
  rw [HD.out] at HND ⊢
  have HLL : Hid (l.length = 32) := hl
  have HRL : Hid (r.length = 32) := hr
  have HIL : Hid ((Tryd.prog.info? 46).map (·.size) = some (cellsOf l).toArray.size) := by show _ = _; rw [size24, dig_size hl]
  have HIR : Hid ((Tryd.prog.info? 46).map (·.size) = some (cellsOf r).toArray.size) := by show _ = _; rw [size24, dig_size hr]
  have y0 : ((n : Int) == 0) = false := by simp; omega
  have y1 : ((n : Int) == 1) = false := by simp; omega
  have hkn : k ≤ n := by omega
  have hkc : k ≤ c := by omega
  have hcne : c - k ≠ 0 := by omega
  have hck : ¬ c = k := by omega
  have hcz : (k : Int) ≤ (c : Int) := by omega
  have hnz : (n : Int) ≤ (c : Int) := by omega
  have hknz : (k : Int) ≤ (n : Int) := by omega
  clear hz hl hr h2 hn s1 s2
  go_enter Tryd.func104, Tryd.ntmps104
  have HN0 : Hid ((w.alloc (.cells #[Value.int IntKind.u8 0, Value.int IntKind.u8 0, Value.int IntKind.u8 0, Value.int IntKind.u8 0, Value.int IntKind.u8 0, Value.int IntKind.u8 0, Value.int IntKind.u8 0, Value.int IntKind.u8 0, Value.int IntKind.u8 0, Value.int IntKind.u8 0, Value.int IntKind.u8 0, Value.int IntKind.u8 0, Value.int IntKind.u8 0, Value.int IntKind.u8 0, Value.int IntKind.u8 0, Value.int IntKind.u8 0, Value.int IntKind.u8 0, Value.int IntKind.u8 0, Value.int IntKind.u8 0, Value.int IntKind.u8 0, Value.int IntKind.u8 0, Value.int IntKind.u8 0, Value.int IntKind.u8 0, Value.int IntKind.u8 0, Value.int IntKind.u8 0, Value.int IntKind.u8 0, Value.int IntKind.u8 0, Value.int IntKind.u8 0, Value.int IntKind.u8 0, Value.int IntKind.u8 0, Value.int IntKind.u8 0, Value.int IntKind.u8 0] 46)).heap[w.heap.size]? = some (.cells #[Value.int IntKind.u8 0, Value.int IntKind.u8 0, Value.int IntKind.u8 0, Value.int IntKind.u8 0, Value.int IntKind.u8 0, Value.int IntKind.u8 0, Value.int IntKind.u8 0, Value.int IntKind.u8 0, Value.int IntKind.u8 0, Value.int IntKind.u8 0, Value.int IntKind.u8 0, Value.int IntKind.u8 0, Value.int IntKind.u8 0, Value.int IntKind.u8 0, Value.int IntKind.u8 0, Value.int IntKind.u8 0, Value.int IntKind.u8 0, Value.int IntKind.u8 0, Value.int IntKind.u8 0, Value.int IntKind.u8 0, Value.int IntKind.u8 0, Value.int IntKind.u8 0, Value.int IntKind.u8 0, Value.int IntKind.u8 0, Value.int IntKind.u8 0, Value.int IntKind.u8 0, Value.int IntKind.u8 0, Value.int IntKind.u8 0, Value.int IntKind.u8 0, Value.int IntKind.u8 0, Value.int IntKind.u8 0, Value.int IntKind.u8 0] 46 (0, 0))) := heap_alloc_new w _
  have HB0 : Hid (Below w.heap.size w (w.alloc (.cells #[Value.int IntKind.u8 0, Value.int IntKind.u8 0, Value.int IntKind.u8 0, Value.int IntKind.u8 0, Value.int IntKind.u8 0, Value.int IntKind.u8 0, Value.int IntKind.u8 0, Value.int IntKind.u8 0, Value.int IntKind.u8 0, Value.int IntKind.u8 0, Value.int IntKind.u8 0, Value.int IntKind.u8 0, Value.int IntKind.u8 0, Value.int IntKind.u8 0, Value.int IntKind.u8 0, Value.int IntKind.u8 0, Value.int IntKind.u8 0, Value.int IntKind.u8 0, Value.int IntKind.u8 0, Value.int IntKind.u8 0, Value.int IntKind.u8 0, Value.int IntKind.u8 0, Value.int IntKind.u8 0, Value.int IntKind.u8 0, Value.int IntKind.u8 0, Value.int IntKind.u8 0, Value.int IntKind.u8 0, Value.int IntKind.u8 0, Value.int IntKind.u8 0, Value.int IntKind.u8 0, Value.int IntKind.u8 0, Value.int IntKind.u8 0] 46))) := bel_alloc w _
  go_wp2_with fail
  obtain ⟨W0, HW0⟩ : ∃ W, Hid (w.alloc (.cells #[Value.int IntKind.u8 0, Value.int IntKind.u8 0, Value.int IntKind.u8 0, Value.int IntKind.u8 0, Value.int IntKind.u8 0, Value.int IntKind.u8 0, Value.int IntKind.u8 0, Value.int IntKind.u8 0, Value.int IntKind.u8 0, Value.int IntKind.u8 0, Value.int IntKind.u8 0, Value.int IntKind.u8 0, Value.int IntKind.u8 0, Value.int IntKind.u8 0, Value.int IntKind.u8 0, Value.int IntKind.u8 0, Value.int IntKind.u8 0, Value.int IntKind.u8 0, Value.int IntKind.u8 0, Value.int IntKind.u8 0, Value.int IntKind.u8 0, Value.int IntKind.u8 0, Value.int IntKind.u8 0, Value.int IntKind.u8 0, Value.int IntKind.u8 0, Value.int IntKind.u8 0, Value.int IntKind.u8 0, Value.int IntKind.u8 0, Value.int IntKind.u8 0, Value.int IntKind.u8 0, Value.int IntKind.u8 0, Value.int IntKind.u8 0] 46) = W) := ⟨_, rfl⟩
  rw [HW0.out] at HN0 HB0 ⊢
  clear y0 y1
  refine (HHF.out _).mono ?_
  rintro e wx ⟨rfl, hwx⟩
  rw [hwx]
  clear hwx wx
  go_wp2_with fail
  refine (HA.out _ HB0.out).mono ?_
  rintro e w1 ⟨rfl, hb1⟩
  have HB1 : Hid (Below w1.heap.size w1 w1) := Below.refl _ _
  have HB01 : Hid (Below W0.heap.size W0 w1) := hb1
  clear hb1
  unfold dv
  have HN_w2 : Hid ((w1.alloc (.cells #[Value.int IntKind.u8 0, Value.int IntKind.u8 0, Value.int IntKind.u8 0, Value.int IntKind.u8 0, Value.int IntKind.u8 0, Value.int IntKind.u8 0, Value.int IntKind.u8 0, Value.int IntKind.u8 0, Value.int IntKind.u8 0, Value.int IntKind.u8 0, Value.int IntKind.u8 0, Value.int IntKind.u8 0, Value.int IntKind.u8 0, Value.int IntKind.u8 0, Value.int IntKind.u8 0, Value.int IntKind.u8 0, Value.int IntKind.u8 0, Value.int IntKind.u8 0, Value.int IntKind.u8 0, Value.int IntKind.u8 0, Value.int IntKind.u8 0, Value.int IntKind.u8 0, Value.int IntKind.u8 0, Value.int IntKind.u8 0, Value.int IntKind.u8 0, Value.int IntKind.u8 0, Value.int IntKind.u8 0, Value.int IntKind.u8 0, Value.int IntKind.u8 0, Value.int IntKind.u8 0, Value.int IntKind.u8 0, Value.int IntKind.u8 0] 46)).heap[w1.heap.size]? = some (.cells #[Value.int IntKind.u8 0, Value.int IntKind.u8 0, Value.int IntKind.u8 0, Value.int IntKind.u8 0, Value.int IntKind.u8 0, Value.int IntKind.u8 0, Value.int IntKind.u8 0, Value.int IntKind.u8 0, Value.int IntKind.u8 0, Value.int IntKind.u8 0, Value.int IntKind.u8 0, Value.int IntKind.u8 0, Value.int IntKind.u8 0, Value.int IntKind.u8 0, Value.int IntKind.u8 0, Value.int IntKind.u8 0, Value.int IntKind.u8 0, Value.int IntKind.u8 0, Value.int IntKind.u8 0, Value.int IntKind.u8 0, Value.int IntKind.u8 0, Value.int IntKind.u8 0, Value.int IntKind.u8 0, Value.int IntKind.u8 0, Value.int IntKind.u8 0, Value.int IntKind.u8 0, Value.int IntKind.u8 0, Value.int IntKind.u8 0, Value.int IntKind.u8 0, Value.int IntKind.u8 0, Value.int IntKind.u8 0, Value.int IntKind.u8 0] 46 (0, 0))) := heap_alloc_new w1 _
  go_wp2_with (refine wpList_store_row rfl 46 (.tmp 6) (.tmp 28) rfl w1.heap.size (cellsOf l).toArray rfl rfl 46 _ HN_w2.out (by rw [size24, dig_size HLL.out]) (by rw [dig_size HLL.out]; rfl) (cells_all _) ?_)
  have HR_w2 := setRow_heap _ _ _ (cellsOf l).toArray _ _ HN_w2.out
  have HB_w2 : Below w1.heap.size w1 ((w1.alloc (.cells #[Value.int IntKind.u8 0, Value.int IntKind.u8 0, Value.int IntKind.u8 0, Value.int IntKind.u8 0, Value.int IntKind.u8 0, Value.int IntKind.u8 0, Value.int IntKind.u8 0, Value.int IntKind.u8 0, Value.int IntKind.u8 0, Value.int IntKind.u8 0, Value.int IntKind.u8 0, Value.int IntKind.u8 0, Value.int IntKind.u8 0, Value.int IntKind.u8 0, Value.int IntKind.u8 0, Value.int IntKind.u8 0, Value.int IntKind.u8 0, Value.int IntKind.u8 0, Value.int IntKind.u8 0, Value.int IntKind.u8 0, Value.int IntKind.u8 0, Value.int IntKind.u8 0, Value.int IntKind.u8 0, Value.int IntKind.u8 0, Value.int IntKind.u8 0, Value.int IntKind.u8 0, Value.int IntKind.u8 0, Value.int IntKind.u8 0, Value.int IntKind.u8 0, Value.int IntKind.u8 0, Value.int IntKind.u8 0, Value.int IntKind.u8 0] 46)).setRow w1.heap.size (cellsOf l).toArray) := below_row (bel_alloc w1 _) (Nat.le_refl _) _
  obtain ⟨w2, HW_w2⟩ : ∃ W, Hid ((w1.alloc (.cells #[Value.int IntKind.u8 0, Value.int IntKind.u8 0, Value.int IntKind.u8 0, Value.int IntKind.u8 0, Value.int IntKind.u8 0, Value.int IntKind.u8 0, Value.int IntKind.u8 0, Value.int IntKind.u8 0, Value.int IntKind.u8 0, Value.int IntKind.u8 0, Value.int IntKind.u8 0, Value.int IntKind.u8 0, Value.int IntKind.u8 0, Value.int IntKind.u8 0, Value.int IntKind.u8 0, Value.int IntKind.u8 0, Value.int IntKind.u8 0, Value.int IntKind.u8 0, Value.int IntKind.u8 0, Value.int IntKind.u8 0, Value.int IntKind.u8 0, Value.int IntKind.u8 0, Value.int IntKind.u8 0, Value.int IntKind.u8 0, Value.int IntKind.u8 0, Value.int IntKind.u8 0, Value.int IntKind.u8 0, Value.int IntKind.u8 0, Value.int IntKind.u8 0, Value.int IntKind.u8 0, Value.int IntKind.u8 0, Value.int IntKind.u8 0] 46)).setRow w1.heap.size (cellsOf l).toArray = W) := ⟨_, rfl⟩
  rw [HW_w2.out] at HR_w2 HB_w2 ⊢
  have HR_w2 : Hid _ := HR_w2
  have HB_w2 : Hid (Below w1.heap.size w1 w2) := HB_w2
  clear HW_w2 HN_w2
  have HB02 : Hid (Below W0.heap.size W0 w2) := HB01.out.trans (HB_w2.out.mono HB01.out.size)
  go_wp2_with fail
  refine (HB.out _ (HB0.out.trans (HB02.out.mono HB0.out.size))).mono ?_
  rintro e w3 ⟨rfl, hb3⟩
  have HB23 : Hid (Below w2.heap.size w2 w3) := hb3
  clear hb3 hkn hkc hcne hck hcz hnz hknz hnc HA HB HHF
  unfold dv
  have HN_w4 : Hid ((w3.alloc (.cells #[Value.int IntKind.u8 0, Value.int IntKind.u8 0, Value.int IntKind.u8 0, Value.int IntKind.u8 0, Value.int IntKind.u8 0, Value.int IntKind.u8 0, Value.int IntKind.u8 0, Value.int IntKind.u8 0, Value.int IntKind.u8 0, Value.int IntKind.u8 0, Value.int IntKind.u8 0, Value.int IntKind.u8 0, Value.int IntKind.u8 0, Value.int IntKind.u8 0, Value.int IntKind.u8 0, Value.int IntKind.u8 0, Value.int IntKind.u8 0, Value.int IntKind.u8 0, Value.int IntKind.u8 0, Value.int IntKind.u8 0, Value.int IntKind.u8 0, Value.int IntKind.u8 0, Value.int IntKind.u8 0, Value.int IntKind.u8 0, Value.int IntKind.u8 0, Value.int IntKind.u8 0, Value.int IntKind.u8 0, Value.int IntKind.u8 0, Value.int IntKind.u8 0, Value.int IntKind.u8 0, Value.int IntKind.u8 0, Value.int IntKind.u8 0] 46)).heap[w3.heap.size]? = some (.cells #[Value.int IntKind.u8 0, Value.int IntKind.u8 0, Value.int IntKind.u8 0, Value.int IntKind.u8 0, Value.int IntKind.u8 0, Value.int IntKind.u8 0, Value.int IntKind.u8 0, Value.int IntKind.u8 0, Value.int IntKind.u8 0, Value.int IntKind.u8 0, Value.int IntKind.u8 0, Value.int IntKind.u8 0, Value.int IntKind.u8 0, Value.int IntKind.u8 0, Value.int IntKind.u8 0, Value.int IntKind.u8 0, Value.int IntKind.u8 0, Value.int IntKind.u8 0, Value.int IntKind.u8 0, Value.int IntKind.u8 0, Value.int IntKind.u8 0, Value.int IntKind.u8 0, Value.int IntKind.u8 0, Value.int IntKind.u8 0, Value.int IntKind.u8 0, Value.int IntKind.u8 0, Value.int IntKind.u8 0, Value.int IntKind.u8 0, Value.int IntKind.u8 0, Value.int IntKind.u8 0, Value.int IntKind.u8 0, Value.int IntKind.u8 0] 46 (0, 0))) := heap_alloc_new w3 _
  go_upto_region 8 with (refine wpList_store_row rfl 46 (.tmp 7) (.tmp 33) rfl w3.heap.size (cellsOf r).toArray rfl rfl 46 _ HN_w4.out (by rw [size24, dig_size HRL.out]) (by rw [dig_size HRL.out]; rfl) (cells_all _) ?_)
  have HR_w4 := setRow_heap _ _ _ (cellsOf r).toArray _ _ HN_w4.out
  have HB_w4 : Below w3.heap.size w3 ((w3.alloc (.cells #[Value.int IntKind.u8 0, Value.int IntKind.u8 0, Value.int IntKind.u8 0, Value.int IntKind.u8 0, Value.int IntKind.u8 0, Value.int IntKind.u8 0, Value.int IntKind.u8 0, Value.int IntKind.u8 0, Value.int IntKind.u8 0, Value.int IntKind.u8 0, Value.int IntKind.u8 0, Value.int IntKind.u8 0, Value.int IntKind.u8 0, Value.int IntKind.u8 0, Value.int IntKind.u8 0, Value.int IntKind.u8 0, Value.int IntKind.u8 0, Value.int IntKind.u8 0, Value.int IntKind.u8 0, Value.int IntKind.u8 0, Value.int IntKind.u8 0, Value.int IntKind.u8 0, Value.int IntKind.u8 0, Value.int IntKind.u8 0, Value.int IntKind.u8 0, Value.int IntKind.u8 0, Value.int IntKind.u8 0, Value.int IntKind.u8 0, Value.int IntKind.u8 0, Value.int IntKind.u8 0, Value.int IntKind.u8 0, Value.int IntKind.u8 0] 46)).setRow w3.heap.size (cellsOf r).toArray) := below_row (bel_alloc w3 _) (Nat.le_refl _) _
  obtain ⟨w4, HW_w4⟩ : ∃ W, Hid ((w3.alloc (.cells #[Value.int IntKind.u8 0, Value.int IntKind.u8 0, Value.int IntKind.u8 0, Value.int IntKind.u8 0, Value.int IntKind.u8 0, Value.int IntKind.u8 0, Value.int IntKind.u8 0, Value.int IntKind.u8 0, Value.int IntKind.u8 0, Value.int IntKind.u8 0, Value.int IntKind.u8 0, Value.int IntKind.u8 0, Value.int IntKind.u8 0, Value.int IntKind.u8 0, Value.int IntKind.u8 0, Value.int IntKind.u8 0, Value.int IntKind.u8 0, Value.int IntKind.u8 0, Value.int IntKind.u8 0, Value.int IntKind.u8 0, Value.int IntKind.u8 0, Value.int IntKind.u8 0, Value.int IntKind.u8 0, Value.int IntKind.u8 0, Value.int IntKind.u8 0, Value.int IntKind.u8 0, Value.int IntKind.u8 0, Value.int IntKind.u8 0, Value.int IntKind.u8 0, Value.int IntKind.u8 0, Value.int IntKind.u8 0, Value.int IntKind.u8 0] 46)).setRow w3.heap.size (cellsOf r).toArray = W) := ⟨_, rfl⟩
  rw [HW_w4.out] at HR_w4 HB_w4 ⊢
  have HR_w4 : Hid _ := HR_w4
  have HB_w4 : Hid (Below w3.heap.size w3 w4) := HB_w4
  clear HW_w4 HN_w4
  have HB24 : Hid (Below w2.heap.size w2 w4) := HB23.out.trans (HB_w4.out.mono HB23.out.size)
  have HB04 : Hid (Below W0.heap.size W0 w4) := HB02.out.trans (HB24.out.mono HB02.out.size)
  have HL4 : Hid (w4.heap[w1.heap.size]? = some (.cells (cellsOf l).toArray 46 (0, 0))) := (HB24.out.block _ (Array.getElem?_eq_some_iff.1 HR_w2.out).1).trans HR_w2.out
  go_wp2_with (first | (refine wpList_load_row rfl 46 (.tmp 6) rfl w1.heap.size rfl 46 (cellsOf l).toArray (0, 0) _ HL4.out Tryd.underlying46 rfl HIL.out ?_) | (refine wpList_load_row rfl 46 (.tmp 7) rfl w3.heap.size rfl 46 (cellsOf r).toArray (0, 0) _ HR_w4.out Tryd.underlying46 rfl HIR.out ?_))
  refine (HND.out _).mono ?_
  rintro e w5 ⟨rfl, hb5⟩
  have HB05 : Hid (Below W0.heap.size W0 w5) := HB04.out.trans (hb5.mono HB04.out.size)
  have HN5 : Hid (w5.heap[w.heap.size]? = some (.cells #[Value.int IntKind.u8 0, Value.int IntKind.u8 0, Value.int IntKind.u8 0, Value.int IntKind.u8 0, Value.int IntKind.u8 0, Value.int IntKind.u8 0, Value.int IntKind.u8 0, Value.int IntKind.u8 0, Value.int IntKind.u8 0, Value.int IntKind.u8 0, Value.int IntKind.u8 0, Value.int IntKind.u8 0, Value.int IntKind.u8 0, Value.int IntKind.u8 0, Value.int IntKind.u8 0, Value.int IntKind.u8 0, Value.int IntKind.u8 0, Value.int IntKind.u8 0, Value.int IntKind.u8 0, Value.int IntKind.u8 0, Value.int IntKind.u8 0, Value.int IntKind.u8 0, Value.int IntKind.u8 0, Value.int IntKind.u8 0, Value.int IntKind.u8 0, Value.int IntKind.u8 0, Value.int IntKind.u8 0, Value.int IntKind.u8 0, Value.int IntKind.u8 0, Value.int IntKind.u8 0, Value.int IntKind.u8 0, Value.int IntKind.u8 0] 46 (0, 0))) := (HB05.out.block _ (Array.getElem?_eq_some_iff.1 HN0.out).1).trans HN0.out
  have HB5 : Hid (Below w.heap.size w w5) := HB0.out.trans (HB05.out.mono HB0.out.size)
  clear hb5
  unfold dv
  go_wp2_with (refine wpList_store_row rfl 46 (.tmp 4) (.tmp 37) rfl w.heap.size (cellsOf d).toArray rfl rfl 46 _ HN5.out (by rw [size24, dig_size HDL.out]) (by rw [dig_size HDL.out]; rfl) (cells_all _) ?_)
  go_wp2_with fail
  refine bodyPost_ret (results_cell_row rfl _ _ w.heap.size 46 (cellsOf d).toArray (0, 0) _ rfl (setRow_heap _ _ _ _ _ _ HN5.out) Tryd.underlying46 rfl (by rw [size24, dig_size HDL.out])) rfl ?_
  exact ⟨rfl, below_row HB5.out (Nat.le_refl _) _⟩
theorem refRoot_any (z : Int) (hz : -9223372036854775808 ≤ z ∧ z ≤ 9223372036854775807) : ∀ (n : Nat) (ao : Option Addr) (c : Nat) (ss : List ByteArray) (w : World), StrV w ao n c ss → n ≤ 1000 → (∀ s ∈ ss, s.size ≤ 1000) →
    Calls Tryd.prog 104 #[.int .i64 z, .slice ao n c] w fun e w' => e = .returned (dv (rootD z (ss.map strB))) ∧ Below w.heap.size w w' := by
  intro n
  induction n using Nat.strongRecOn with
  | ind n ih =>
    intro ao c ss w hS hn hs
    match n, ss, hS with
    | 0, [], hS => exact refRoot_zero z ao c w hz
    | 1, [s], hS =>
      obtain ⟨b, off, rfl, h⟩ := hS.2.2.2 (by omega)
      exact refRoot_one z b off c s w (by have := h 0 s rfl; rwa [Nat.add_zero] at this) (hs s (by simp)) hz
    | n + 2, ss, hS =>
      obtain ⟨b, off, rfl, -⟩ := hS.2.2.2 (by omega)
      obtain ⟨s1, s2, -⟩ := halfN_spec (n + 2) (by omega) (by omega)
      have hl : (ss.map strB).length = n + 2 := by rw [List.length_map]; exact hS.1
      have e := rootD_two z (ss.map strB) (by omega) (by omega)
      rw [hl, ← List.map_take, ← List.map_drop] at e
      rw [e]
      refine refRoot_many z b off (n + 2) c w _ _ (by omega) hn hS.2.1 (rootD_length _ _) (rootD_length _ _) hz (fun W hW => ?_) (fun W hW => ?_)
      · exact ih (halfN (n + 2)) (by omega) _ c _ W ((hS.below hW (Nat.le_refl _)).take _ (by omega)) (by omega) (fun s h => hs s (List.mem_of_mem_take h))
      · exact ih (n + 2 - halfN (n + 2)) (by omega) _ _ _ W ((hS.below hW (Nat.le_refl _)).drop _ (by omega)) (by omega) (fun s h => hs s (List.mem_of_mem_drop h))
theorem strs_bytes (ls : List LV) : (strs ls).map strB = bytesL ls := by
  unfold strs bytesL
  rw [List.map_map]
  refine List.map_congr_left fun p _ => ?_
  exact strB_mk p.bs
end Go.Proofs.YtecacjddggljgaaDoor.Sm
