/-
  What Text and Digest of the document answer: contracts over this translation.
-/
import Derived.Test.YtiimmknnlciljaaDoorSuRy
import Derived.Test.YtiimmknnlciljaaDoorSuS
namespace Go.Proofs.YtiimmknnlciljaaDoor
open Go.RowKit Go.Sort Go.Shelf
set_option linter.unusedSectionVars false
variable [Inhabited E] [DecidableEq E]
set_option maxRecDepth 100000 in
theorem refTextS_any (s : ByteArray) (w : World) (hs : s.size ≤ 200000) :
    Calls Tryd.prog 36 #[.string s] w fun e w' => e = .returned (.string (mkS (3 :: strB s))) ∧ Below w.heap.size w w' := by
  have hcv : (convert 25 9 (.slice (some ⟨w.heap.size, 0, none⟩) 1 1)).run Tryd.prog (w.alloc (.cells #[.int .u8 3] 5)) = .ok (.string ⟨[(3 : UInt8)].toArray⟩) (w.alloc (.cells #[.int .u8 3] 5)) := str_bytes 1 (bytes_one w 3)
  have HQ : Hid ((⟨[(3 : UInt8)].toArray⟩ : ByteArray) ++ s = mkS (3 :: strB s)) := by
    show _ = _
    rw [str_mk s, strB_mk]
    exact mkS_append [3] (strB s)
  have hq1 : (⟨[(3 : UInt8)].toArray⟩ : ByteArray).size = 1 := rfl
  obtain ⟨q, hq⟩ : ∃ q : ByteArray, q = ⟨[(3 : UInt8)].toArray⟩ := ⟨_, rfl⟩
  rw [← hq] at hcv HQ hq1
  obtain ⟨R, HR⟩ : ∃ R, Hid (mkS (3 :: strB s) = R) := ⟨_, rfl⟩
  rw [HR.out] at HQ ⊢
  have hsum : ¬ (9223372036854775807 < q.size + s.size) := by omega
  have hsum2 : ¬ (9223372036854775807 < 1 + s.size) := by omega
  clear hq hs
  go_enter Tryd.func36, Tryd.ntmps36
  go_wp2
  go_ret
  exact ⟨by rw [← HQ.out]; rfl, bel_alloc _ _⟩
set_option maxRecDepth 100000 in
set_option maxHeartbeats 4000000 in
theorem refDigest14_any (z : Int) (ao : Option Addr) (n c : Nat) (ts : List Tb) (w : World) (hE : TabsV w ao n ts) (hsm : SmallT ts) (hbig : n ≤ 60) (hz : -9223372036854775808 ≤ z ∧ z ≤ 9223372036854775807) :
    Calls Tryd.prog 16 #[.int .i64 z, .slice ao n c] w fun e w' => e = .returned (.tuple #[.agg (cellsOf (digB z ts)).toArray, .int .i64 (if rightTB ts then 0 else 1)]) ∧ Below w.heap.size w w' := by
  have hb0 := bel_alloc w (.cells (cellsOf Z32).toArray 32)
  have HY : Hid _ := refBytes14_any ao n c ts (w.alloc (.cells (cellsOf Z32).toArray 32)) (hE.keep hb0) hsm (by omega)
  have HZZ : Hid (-9223372036854775808 ≤ z ∧ z ≤ 9223372036854775807) := hz
  have HRW : Hid ((w.alloc (.cells (cellsOf Z32).toArray 32)).heap[w.heap.size]? = some (.cells (cellsOf Z32).toArray 32 (0, 0))) := heap_alloc_new w _
  have HB0 : Hid (Below w.heap.size w (w.alloc (.cells (cellsOf Z32).toArray 32))) := hb0
  obtain ⟨r, HR⟩ : ∃ r, Hid (rightTB ts = r) := ⟨_, rfl⟩
  obtain ⟨er, HER⟩ : ∃ er : Int, Hid ((if r then (0 : Int) else 1) = er) := ⟨_, rfl⟩
  obtain ⟨sr, HSR⟩ : ∃ s : ByteArray, Hid ((if r then mkS (sumB ts) else ByteArray.empty) = s) := ⟨_, rfl⟩
  obtain ⟨D, HD⟩ : ∃ D, Hid (digB z ts = D) := ⟨_, rfl⟩
  have HDL : Hid (D.length = 32) := by show _ = _; rw [← HD.out]; exact digB_len z ts
  have HDQ : Hid (D = if r then Sm.keptZ z (3 :: sumB ts) else Z32) := by show _ = _; rw [← HD.out, ← HR.out]; rfl
  have HSL : Hid (r = true → (sumB ts).length ≤ 19700) := fun h => by
    have h1 := rightTB_iff.1 (HR.out.trans h)
    have := sumB_len h1
    have := hE.1
    omega
  rw [HR.out, HER.out, HSR.out] at HY
  rw [HR.out, HER.out, HD.out]
  clear hE hsm hz hb0 HD HR
  go_enter Tryd.func16, Tryd.ntmps16
  go_wp2_with fail
  refine Calls.mono HY.out ?_
  rintro e w1 ⟨rfl, hb1⟩
  have HR1 : Hid (w1.heap[w.heap.size]? = some (.cells (cellsOf Z32).toArray 32 (0, 0))) := (hb1.block _ (by simp)).trans HRW.out
  have HB1 : Hid (Below w.heap.size w w1) := HB0.out.trans (hb1.mono (by simp))
  clear hb1 HRW HB0 HY
  cases r with
  | false =>
    obtain rfl : er = 1 := HER.out.symm
    obtain rfl : D = Z32 := HDQ.out
    go_wp2_with (refine wpList_store_row rfl 32 (.tmp 4) (.tmp 15) rfl w.heap.size (cellsOf Z32).toArray rfl rfl 32 (cellsOf Z32).toArray HR1.out (dig_szA (by simp [Z32])) rfl (dig_all _) ?_)
    refine bodyPost_ret (results_dig rfl _ _ w.heap.size 32 _ (0, 0) rfl (setRow_heap _ _ _ _ _ _ HR1.out) (dig_szA (by simp [Z32]))) rfl ?_
    exact ⟨rfl, below_setRow HB1.out (Nat.le_refl _) _⟩
  | true =>
    obtain rfl : er = 0 := HER.out.symm
    have HSQ : Hid (sr = mkS (sumB ts)) := HSR.out.symm
    have hss : sr.size ≤ 19700 := by rw [HSQ.out, mkS_size]; exact HSL.out rfl
    have CT : Hid _ := refTextS_any sr w1 (by omega)
    have HST : Hid (strB sr = sumB ts) := by show _ = _; rw [HSQ.out]; exact mkS_strB _
    rw [HST.out] at CT
    have CK : Hid (∀ W, Calls Tryd.prog 35 #[.string (mkS (3 :: sumB ts)), .int .i64 z] W fun e w' => e = .returned (.agg (cellsOf D).toArray) ∧ Below W.heap.size W w') := fun W => by
      have h := Sm.refKept_any (mkS (3 :: sumB ts)) z W (by rw [mkS_size, List.length_cons]; have := HSL.out rfl; omega) HZZ.out.1 HZZ.out.2
      rw [show Sm.strB (mkS (3 :: sumB ts)) = 3 :: sumB ts from mkS_strB _] at h
      rw [show D = Sm.keptZ z (3 :: sumB ts) from HDQ.out]
      exact h
    clear HER HSR hss
    go_wp2_with fail
    refine Calls.mono CT.out ?_
    rintro e w2 ⟨rfl, hb2⟩
    have HB2 : Hid (Below w.heap.size w w2) := HB1.out.trans (hb2.mono HB1.out.size)
    have HR2 : Hid (w2.heap[w.heap.size]? = some (.cells (cellsOf Z32).toArray 32 (0, 0))) := (hb2.block _ (Array.getElem?_eq_some_iff.1 HR1.out).1).trans HR1.out
    clear hb2 CT
    go_wp2_with fail
    refine (CK.out _).mono ?_
    rintro e w3 ⟨rfl, hb3⟩
    have HB3 : Hid (Below w.heap.size w w3) := HB2.out.trans (hb3.mono HB2.out.size)
    have HR3 : Hid (w3.heap[w.heap.size]? = some (.cells (cellsOf Z32).toArray 32 (0, 0))) := (hb3.block _ (Array.getElem?_eq_some_iff.1 HR2.out).1).trans HR2.out
    clear hb3 CK
    go_wp2_with (refine wpList_store_row rfl 32 (.tmp 4) (.tmp 20) rfl w.heap.size (cellsOf D).toArray rfl rfl 32 (cellsOf Z32).toArray HR3.out (dig_szA HDL.out) (by show (cellsOf Z32).toArray.size = (cellsOf D).toArray.size; rw [List.size_toArray, List.size_toArray, cellsOf_length, cellsOf_length, HDL.out]; simp [Z32]) (dig_all _) ?_)
    refine bodyPost_ret (results_dig rfl _ _ w.heap.size 32 _ (0, 0) rfl (setRow_heap _ _ _ _ _ _ HR3.out) (dig_szA HDL.out)) rfl ?_
    exact ⟨rfl, below_setRow HB3.out (Nat.le_refl _) _⟩
end Go.Proofs.YtiimmknnlciljaaDoor
