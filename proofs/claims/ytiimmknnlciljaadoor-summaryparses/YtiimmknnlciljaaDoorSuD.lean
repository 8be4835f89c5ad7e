/-
  What Text and Digest of a summary answer: contracts over this translation.
-/
import Derived.Test.YtiimmknnlciljaaDoorSuY
namespace Go.Proofs.YtiimmknnlciljaaDoor
open Go.RowKit Go.Sort Go.Shelf
set_option linter.unusedSectionVars false
variable [Inhabited E] [DecidableEq E]
theorem own_three (w : World) : (w.alloc (.cells #[.int .u8 3] 5)).ownsRow w.heap.size 5 1 (.slice (some ⟨w.heap.size, 0, none⟩) 1 1) 1 (cellsOf [3]) :=
  ⟨rfl, .inr ⟨w.heap.size, 1, _, rfl, Nat.le_refl _, heap_alloc_new w _, Nat.le_refl _, by unfold maxLen; omega, rfl, rfl⟩⟩
set_option maxRecDepth 100000 in
theorem textS_any (ao : Option Addr) (n c : Nat) (bs : List UInt8) (w : World) (hb : Bytes w ao n bs) (h0 : ao = none → c = 0) (hn : n ≤ 140737488355000) :
    Calls Tryd.prog 28 #[.slice ao n c] w fun e w' => ∃ v, e = .returned v ∧ w'.ownsRow w.heap.size 5 1 v (3 :: bs).length (cellsOf (3 :: bs)) ∧ Below w.heap.size w w' := by
  have HB : Hid (Bytes (w.alloc (.cells #[.int .u8 3] 5)) ao n bs) := bytes_kept hb (bel_alloc w _) (Nat.le_refl _)
  have H0 : Hid (ao = none → c = 0) := h0
  have HO : Hid ((w.alloc (.cells #[.int .u8 3] 5)).ownsRow w.heap.size 5 1 (.slice (some ⟨w.heap.size, 0, none⟩) 1 1) 1 (cellsOf [3])) := own_three w
  have HS : Hid (w.heap.size ≤ (w.alloc (.cells #[.int .u8 3] 5)).heap.size) := by show _ ≤ _; simp
  clear hb h0
  go_enter Tryd.func28, Tryd.ntmps28
  go_wp2_with (at_builtin; refine wpList_append_bytes _ rfl (.tmp 3) (.tmp 4) rfl w.heap.size _ 1 [3] rfl HO.out HS.out ao n c bs rfl HB.out H0.out (by omega) ?_)
  intro v' w1 hown hb1
  have HN : Hid _ := And.intro hown ((bel_alloc w _).trans hb1)
  clear hown hb1
  go_wp2
  go_ret
  exact ⟨v', rfl, HN.out.1, HN.out.2⟩
theorem results_dig {fn : Func} {p u : Tmp} (h : fn.results = #[.cell p 32, .tmp u]) (tmps : Array Value) (w : World) (g : Nat) (t : TypeId) (cs : Array Value) (fr : Nat × Nat)
    (hp : tmps.getD p undef = .pointer (some ⟨g, 0, none⟩)) (hg : w.heap[g]? = some (.cells cs t fr)) (hi : (Tryd.prog.info? 32).map (·.size) = some cs.size) :
    (results fn tmps).run Tryd.prog w = .ok (.tuple #[.agg cs, tmps.getD u undef]) w := by
  have hp' : tmps[p]?.getD undef = .pointer (some ⟨g, 0, none⟩) := by simpa using hp
  simp [results, h, hp', asAddr, run_loadVar_row w g t 32 cs fr _ hg Tryd.underlying32 rfl hi]
def Z32 : List UInt8 := List.replicate 32 0
/-- The digest of a list. -/
noncomputable def digB (z : Int) (ts : List Tb) : List UInt8 := if rightTB ts then Sm.keptZ z (3 :: sumB ts) else Z32
theorem keptZ_len (z : Int) (bs : List UInt8) : (Sm.keptZ z bs).length = 32 := Sm.keptZ_length z bs
theorem digB_len (z : Int) (ts : List Tb) : (digB z ts).length = 32 := by
  unfold digB; split
  · exact keptZ_len z _
  · simp [Z32]
theorem dig_szA {d : List UInt8} (h : d.length = 32) : (Tryd.prog.info? 32).map (·.size) = some (cellsOf d).toArray.size := by rw [Sm.size24, List.size_toArray, cellsOf_length, h]
theorem dig_all (d : List UInt8) : (cellsOf d).toArray.all (·.oneCell') = true := all_oneCell_toArray (cellsOf_one d)
set_option maxRecDepth 100000 in
set_option maxHeartbeats 4000000 in
theorem digest14_any (z : Int) (ao : Option Addr) (n c : Nat) (ts : List Tb) (w : World) (hE : TabsV w ao n ts) (hsm : SmallT ts) (hbig : n ≤ 9223372036854775807) (hK : Sm.WW w 0 Sm.ks) (hz0 : 0 < w.heap.size) (hz : -9223372036854775808 ≤ z ∧ z ≤ 9223372036854775807) :
    Calls Tryd.prog 15 #[.int .i64 z, .slice ao n c] w fun e w' => e = .returned (.tuple #[.agg (cellsOf (digB z ts)).toArray, .int .i64 (if rightTB ts then 0 else 1)]) ∧ Below w.heap.size w w' := by
  have hb0 := bel_alloc w (.cells (cellsOf Z32).toArray 32)
  have HY := bytes14_any ao n c ts (w.alloc (.cells (cellsOf Z32).toArray 32)) (hE.keep hb0) hsm hbig
  have HK : Hid (Sm.WW (w.alloc (.cells (cellsOf Z32).toArray 32)) 0 Sm.ks) := hK.below hb0 hz0
  have HZ : Hid (0 < w.heap.size) := hz0
  have HZZ : Hid (-9223372036854775808 ≤ z ∧ z ≤ 9223372036854775807) := hz
  have HRW : Hid ((w.alloc (.cells (cellsOf Z32).toArray 32)).heap[w.heap.size]? = some (.cells (cellsOf Z32).toArray 32 (0, 0))) := heap_alloc_new w _
  have HB0 : Hid (Below w.heap.size w (w.alloc (.cells (cellsOf Z32).toArray 32))) := hb0
  obtain ⟨r, HR⟩ : ∃ r, Hid (rightTB ts = r) := ⟨_, rfl⟩
  have HD : Hid (digB z ts = if r then Sm.keptZ z (3 :: sumB ts) else Z32) := by show _ = _; unfold digB; rw [HR.out]
  have HSL : Hid (r = true → (sumB ts).length ≤ 200000) := fun h => by
    have h1 := rightTB_iff.1 (HR.out.trans h)
    have := sumB_len h1
    have := h1.1
    omega
  rw [HR.out] at HY
  obtain ⟨er, HER⟩ : ∃ er : Int, Hid ((if r then (0 : Int) else 1) = er) := ⟨_, rfl⟩
  obtain ⟨DD, HDD⟩ : ∃ D, Hid (digB z ts = D) := ⟨_, rfl⟩
  rw [HR.out, HDD.out, HER.out]
  rw [HER.out] at HY
  rw [HDD.out] at HD
  clear hE hsm hK hz0 hz hb0
  go_enter Tryd.func15, Tryd.ntmps15
  go_wp2_with fail
  refine HY.mono ?_
  rintro e w1 ⟨v1, rfl, hyb, hb1⟩
  have HR1 : Hid (w1.heap[w.heap.size]? = some (.cells (cellsOf Z32).toArray 32 (0, 0))) := (hb1.block _ (by simp)).trans HRW.out
  have HB1 : Hid (Below w.heap.size w w1) := HB0.out.trans (hb1.mono (by simp))
  have HK1 : Hid (Sm.WW w1 0 Sm.ks) := HK.out.below hb1 (by simp)
  have HYB : Hid (YB r (w.heap.size + 1) w1 v1 (sumB ts)) := by show YB _ _ _ _ _; have := hyb; simpa using this
  clear hyb hb1 HK HRW HB0
  cases r with
  | false =>
    obtain rfl : er = 1 := HER.out.symm
    obtain rfl : DD = Z32 := HD.out
    clear HER HD HDD
    go_wp2_with (refine wpList_store_row rfl 32 (.tmp 4) (.tmp 15) rfl w.heap.size (cellsOf Z32).toArray rfl rfl 32 (cellsOf Z32).toArray HR1.out (dig_szA (by simp [Z32])) rfl (dig_all _) ?_)
    refine bodyPost_ret (results_dig rfl _ _ w.heap.size 32 _ (0, 0) rfl (setRow_heap _ _ _ _ _ _ HR1.out) (dig_szA (by simp [Z32]))) rfl ?_
    exact ⟨rfl, below_setRow HB1.out (Nat.le_refl _) _⟩
  | true =>
    obtain rfl : er = 0 := HER.out.symm
    have HDQ : Hid (DD = Sm.keptZ z (3 :: sumB ts)) := HD.out
    clear HER HD HDD
    have hown := HYB.out.1 rfl
    obtain ⟨a1, c1, rfl, hby, hn1, hlc, hcm, -, -⟩ := own_bytes hown
    have hsl := HSL.out rfl
    have HT : Hid _ := textS_any a1 (sumB ts).length c1 (sumB ts) w1 hby hn1 (by omega)
    clear hown hby hn1 hlc hcm HYB
    go_wp2_with fail
    refine Calls.mono HT.out ?_
    rintro e w2 ⟨v2, rfl, hown2, hb2⟩
    have HB2 : Hid (Below w.heap.size w w2) := HB1.out.trans (hb2.mono HB1.out.size)
    have HR2 : Hid (w2.heap[w.heap.size]? = some (.cells (cellsOf Z32).toArray 32 (0, 0))) := (hb2.block _ (by have := (Array.getElem?_eq_some_iff.1 HR1.out).1; exact this)).trans HR1.out
    have hz9 : 0 < w1.heap.size := by have := HB1.out.size; have := HZ.out; omega
    have HK2 : Hid _ := Sm.kept_own v2 _ (3 :: sumB ts) z w2 w1.heap.size hown2 (by rw [List.length_cons]; omega) (HK1.out.below hb2 hz9) (by have := hb2.size; omega) HZZ.out
    clear hown2 hb2 hz9 HT
    go_wp2_with fail
    refine Calls.mono HK2.out ?_
    rintro e w3 ⟨rfl, hb3⟩
    have HB3 : Hid (Below w.heap.size w w3) := HB2.out.trans (hb3.mono HB2.out.size)
    have HR3 : Hid (w3.heap[w.heap.size]? = some (.cells (cellsOf Z32).toArray 32 (0, 0))) := (hb3.block _ (Array.getElem?_eq_some_iff.1 HR2.out).1).trans HR2.out
    have HDL : Hid (DD.length = 32) := by show _ = _; rw [HDQ.out]; exact keptZ_len z _
    rw [← HDQ.out]
    rw [show Sm.dv DD = .agg (cellsOf DD).toArray from rfl]
    clear hb3 HK2
    go_wp2_with (refine wpList_store_row rfl 32 (.tmp 4) (.tmp 20) rfl w.heap.size (cellsOf DD).toArray rfl rfl 32 (cellsOf Z32).toArray HR3.out (dig_szA HDL.out) (by show (cellsOf Z32).toArray.size = (cellsOf DD).toArray.size; rw [List.size_toArray, List.size_toArray, cellsOf_length, cellsOf_length, HDL.out]; simp [Z32]) (dig_all _) ?_)
    refine bodyPost_ret (results_dig rfl _ _ w.heap.size 32 _ (0, 0) rfl (setRow_heap _ _ _ _ _ _ HR3.out) (dig_szA HDL.out)) rfl ?_
    exact ⟨rfl, below_setRow HB3.out (Nat.le_refl _) _⟩
end Go.Proofs.YtiimmknnlciljaaDoor
