/-
  What seek.empty and seek.entryOf answer: contracts over this translation. What seek.standsAbove answers: a contract over this translation. What seek.Check answers: a contract over this translation.
-/
import Derived.Test.YtecacjddggljgaaDoorPartAI
import Derived.Test.YtecacjddggljgaaDoorPartCA
import Derived.Test.YtecacjddggljgaaDoorPartCH
namespace Go.Proofs.YtecacjddggljgaaDoor
open Go.RowKit Go.Sort Go.Shelf
set_option linter.unusedSectionVars false
variable [Inhabited E] [DecidableEq E]
/-- An opening as it lies: its place, its leaf, its path. -/
structure Opn where
  at_ : Int
  lo : Option Addr
  ln : Nat
  lc : Nat
  bs : List UInt8
  po : Option Addr
  pn : Nat
  pc : Nat
  ds : List (List UInt8)
def Opn.cells (o : Opn) : Array Value := #[.int .i64 o.at_, .slice o.lo o.ln o.lc, .slice o.po o.pn o.pc]
structure OpnV (w : World) (o : Opn) : Prop where
  leaf : Bytes w o.lo o.ln o.bs
  l0 : o.lo = none → o.lc = 0
  l1 : o.ln ≤ o.lc
  l2 : o.lc ≤ 9223372036854775807
  l3 : o.ln ≤ 140737488355000
  len : o.ds.length = o.pn
  p1 : o.pn ≤ o.pc
  p2 : o.pc ≤ 9223372036854775807
  path : Sm.PathV w o.po o.ds
theorem OpnV.keep {w w' : World} {o : Opn} (h : OpnV w o) (hb : Below w.heap.size w w') : OpnV w' o :=
  ⟨bytes_kept h.leaf hb (Nat.le_refl _), h.l0, h.l1, h.l2, h.l3, h.len, h.p1, h.p2, h.path.below hb (Nat.le_refl _)⟩
def emptyO (o : Opn) : Bool := decide (o.at_ = 0) && (decide (o.ln = 0) && decide (o.pn = 0))
theorem cellsT3 (w : World) (a b c : Value) (t : TypeId) : (w.alloc (.cells #[a, b, c] t)).cell? ⟨w.heap.size, 0, none⟩ = some a ∧ (w.alloc (.cells #[a, b, c] t)).cell? ⟨w.heap.size, 1, none⟩ = some b ∧ (w.alloc (.cells #[a, b, c] t)).cell? ⟨w.heap.size, 2, none⟩ = some c :=
  ⟨by rw [cell_of_row _ _ _ _ _ _ (heap_alloc_new w _)]; rfl, by rw [cell_of_row _ _ _ _ _ _ (heap_alloc_new w _)]; rfl, by rw [cell_of_row _ _ _ _ _ _ (heap_alloc_new w _)]; rfl⟩
set_option maxRecDepth 100000 in
set_option maxHeartbeats 1000000 in
theorem empty_any (o : Opn) (w : World) : Calls Tryd.prog 52 #[.agg o.cells] w fun e w' => e = .returned (.bool (emptyO o)) ∧ Below w.heap.size w w' := by
  obtain ⟨c0, c1, c2⟩ := cellsT3 w (.int .i64 o.at_) (.slice o.lo o.ln o.lc) (.slice o.po o.pn o.pc) 30
  have HR : Hid (∀ x y z, decide (o.at_ = 0) = x → decide (o.ln = 0) = y → decide (o.pn = 0) = z → emptyO o = (x && (y && z))) := fun x y z h1 h2 h3 => by unfold emptyO; rw [h1, h2, h3]
  obtain ⟨R, HRR⟩ : ∃ r, Hid (emptyO o = r) := ⟨_, rfl⟩
  rw [HRR.out] at HR
  rw [HRR.out]
  unfold Opn.cells
  go_enter Tryd.func52, Tryd.ntmps52
  by_cases h1 : o.at_ = 0
  · have z1 : (o.at_ == (0 : Int)) = true := by simpa using h1
    by_cases h2 : o.ln = 0
    · have z2 : ((o.ln : Int) == 0) = true := by simp; omega
      by_cases h3 : o.pn = 0
      · have z3 : ((o.pn : Int) == 0) = true := by simp; omega
        have HX : Hid _ := HR.out _ _ _ (decide_eq_true h1) (decide_eq_true h2) (decide_eq_true h3)
        clear h1 h2 h3 HR
        go_wp2
        go_ret
        exact ⟨by rw [HX.out]; rfl, bel_alloc _ _⟩
      · have z3 : ((o.pn : Int) == 0) = false := by simp; omega
        have HX : Hid _ := HR.out _ _ _ (decide_eq_true h1) (decide_eq_true h2) (decide_eq_false h3)
        clear h1 h2 h3 HR
        go_wp2
        go_ret
        exact ⟨by rw [HX.out]; rfl, bel_alloc _ _⟩
    · have z2 : ((o.ln : Int) == 0) = false := by simp; omega
      have HX : Hid _ := HR.out _ _ _ (decide_eq_true h1) (decide_eq_false h2) rfl
      clear h1 h2 HR
      go_wp2
      go_ret
      exact ⟨by rw [HX.out]; rfl, bel_alloc _ _⟩
  · have z1 : (o.at_ == (0 : Int)) = false := by simpa using h1
    have HX : Hid _ := HR.out _ _ _ (decide_eq_false h1) rfl rfl
    clear h1 HR
    go_wp2
    go_ret
    exact ⟨by rw [HX.out]; rfl, bel_alloc _ _⟩
/-- The entry that an opening shows. -/
def entryO (z : Int) (root : List UInt8) (n : Int) (o : Opn) : Option E := if Sm.ckB z root n o.at_ o.bs o.ds then soleOf o.bs else none
theorem tabC_at (lv n : Int) {d : List UInt8} (h : d.length = 32) (k1 k2 : ByteArray) : (tabC lv n d k1 k2)[1]? = some (.int .i64 n) ∧ (∀ j v, (cellsOf d)[j]? = some v → (tabC lv n d k1 k2)[2 + j]? = some v) ∧ (tabC lv n d k1 k2)[34]? = some (.string k1) ∧ (tabC lv n d k1 k2)[35]? = some (.string k2) := by
  unfold tabC
  refine ⟨rfl, fun j v hj => ?_, ?_, ?_⟩
  · have hl : j < (cellsOf d).length := (List.getElem?_eq_some_iff.1 hj).1
    rw [Nat.add_comm]
    simp only [List.getElem?_toArray]
    show (cellsOf d ++ _)[j]? = _
    rw [List.getElem?_append_left hl]; exact hj
  · simp only [List.getElem?_toArray]
    show (cellsOf d ++ _)[32]? = _
    rw [List.getElem?_append_right (by rw [cellsOf_length, h]; omega), cellsOf_length, h]; rfl
  · simp only [List.getElem?_toArray]
    show (cellsOf d ++ _)[33]? = _
    rw [List.getElem?_append_right (by rw [cellsOf_length, h]; omega), cellsOf_length, h]; rfl
set_option maxRecDepth 100000 in
set_option maxHeartbeats 2000000 in
theorem entryOf_any (z lv n : Int) (root : List UInt8) (k1 k2 : ByteArray) (o : Opn) (w : World) (hr : root.length = 32) (hn : n ≤ 9223372036854775807) (hO : OpnV w o) (hK : Sm.WW w 1 Sm.ks) (hz0 : 1 < w.heap.size) (hz : -9223372036854775808 ≤ z ∧ z ≤ 9223372036854775807) :
    Calls Tryd.prog 50 #[.agg #[.int .i64 z], .agg (tabC lv n root k1 k2), .agg o.cells] w fun e w' => e = .returned (soleV (entryO z root n o)) ∧ Below w.heap.size w w' := by
  have HO : Hid (∀ W, Below w.heap.size w W → OpnV W o) := fun W hW => hO.keep hW
  obtain ⟨W4, HW4⟩ : ∃ W, Hid (W = (((w.alloc (.cells #[.int .i64 z] 26)).alloc (.cells (tabC lv n root k1 k2) 48)).alloc (.cells o.cells 30)).alloc (.cells #[.string ⟨#[]⟩, .string ⟨#[]⟩, .bool false, .int .i64 0] 54)) := ⟨_, rfl⟩
  have HF4 : Hid _ := Sm.frame4 w (.cells #[.int .i64 z] 26) (.cells (tabC lv n root k1 k2) 48) (.cells o.cells 30) _ _ W4 HW4.out
  obtain ⟨t1, t2, -, -⟩ := tabC_at lv n hr k1 k2
  have HC : Hid (∀ V, Below (w.heap.size + 4) W4 V → V.heap[w.heap.size]? = some (.cells #[.int .i64 z] 26 (0, 0)) ∧ V.cell? ⟨w.heap.size + 1, 1, none⟩ = some (.int .i64 n) ∧ V.rangeAt (w.heap.size + 1) 2 (cellsOf root) ∧ V.cell? ⟨w.heap.size + 2, 0, none⟩ = some (.int .i64 o.at_) ∧ V.cell? ⟨w.heap.size + 2, 1, none⟩ = some (.slice o.lo o.ln o.lc) ∧ V.cell? ⟨w.heap.size + 2, 2, none⟩ = some (.slice o.po o.pn o.pc) ∧ V.heap[w.heap.size + 3]? = some (.cells #[.string ⟨#[]⟩, .string ⟨#[]⟩, .bool false, .int .i64 0] 54 (0, 0))) := fun V hV => by
    obtain ⟨h1, h2, h3, h4, -, h6⟩ := HF4.out
    have g1 := (hV.block w.heap.size (by omega)).trans h1
    have g2 := (hV.block (w.heap.size + 1) (by omega)).trans h2
    have g3 := (hV.block (w.heap.size + 2) (by omega)).trans h3
    have g4 := (hV.block (w.heap.size + 3) (by omega)).trans h4
    refine ⟨g1, by rw [cell_of_row _ _ _ _ _ _ g2]; exact t1, fun j v hj => by rw [cell_of_row _ _ _ _ _ _ g2]; exact t2 j v hj, by rw [cell_of_row _ _ _ _ _ _ g3]; rfl, by rw [cell_of_row _ _ _ _ _ _ g3]; rfl, by rw [cell_of_row _ _ _ _ _ _ g3]; rfl, g4⟩
  have HB4 : Hid (Below w.heap.size w W4 ∧ W4.heap.size = w.heap.size + 4) := ⟨HF4.out.2.2.2.2.1, HF4.out.2.2.2.2.2⟩
  have HKW : Hid (∀ V, Below w.heap.size w V → Sm.WW V 1 Sm.ks ∧ 1 < V.heap.size) := fun V hV => ⟨hK.below hV hz0, by have := hV.size; omega⟩
  obtain ⟨R, HR⟩ : ∃ r, Hid (entryO z root n o = r) := ⟨_, rfl⟩
  rw [HR.out]
  have HC1 : Hid _ := (Sm.check_any z root n o.at_ o.lo o.ln o.lc o.bs o.po o.pn o.pc o.ds W4 hr hn hO.len hO.p1 hO.p2 (HO.out W4 HB4.out.1).path (HO.out W4 HB4.out.1).leaf hO.l0 hO.l3 (HKW.out W4 HB4.out.1).1 (HKW.out W4 HB4.out.1).2 hz)
  obtain ⟨ck, HCK⟩ : ∃ b, Hid (Sm.ckB z root n o.at_ o.bs o.ds = b) := ⟨_, rfl⟩
  rw [HCK.out] at HC1
  obtain ⟨d0, d1, d2, d3, d4, d5, d6⟩ := HC.out W4 (Below.refl _ _)
  have c0 : W4.cell? ⟨w.heap.size, 0, none⟩ = some (.int .i64 z) := by rw [cell_of_row _ _ _ _ _ _ d0]; rfl
  have HRG : Hid _ := d2
  have HD0 : Hid _ := d0
  have HSR : Hid ((Tryd.prog.info? 46).map (·.size) = some (cellsOf root).length) := by show _ = _; rw [Sm.size24, cellsOf_length, hr]
  have HS26 : Hid ((Tryd.prog.info? 26).map (·.size) = some 1) := by show _ = _; kernel_rfl
  clear hO hK hz0 t1 t2 d0 d2 d6
  go_enter Tryd.func50, Tryd.ntmps50
  go_upto_region 1 with fail
  rw [← HW4.out]
  simp only [show w.heap.size + 1 + 1 + 1 = w.heap.size + 3 from rfl, show w.heap.size + 1 + 1 = w.heap.size + 2 from rfl]
  go_wp2_with (first | (refine wpList_load_row rfl 26 (.tmp 3) rfl w.heap.size rfl 26 #[.int .i64 z] (0, 0) _ HD0.out Tryd.underlying26 rfl HS26.out ?_) | (refine wpList_load_mid rfl 46 (.tmp 9) rfl (w.heap.size + 1) 2 rfl (cellsOf root) _ HRG.out Tryd.underlying46 rfl HSR.out ?_))
  refine Calls.mono HC1.out ?_
  rintro e w5 ⟨rfl, hb5⟩
  have HB5 : Hid (Below (w.heap.size + 4) W4 w5) := by have h := hb5; rw [HB4.out.2] at h; exact h
  have HBW : Hid (Below w.heap.size w w5) := HB4.out.1.trans (hb5.mono HB4.out.1.size)
  clear hb5 HC1 d1 d3 d4 d5 c0
  obtain ⟨-, -, -, -, e4, -, e6⟩ := HC.out w5 HB5.out
  have b0 : w5.cell? ⟨w.heap.size + 3, 0, none⟩ = some (.string ⟨#[]⟩) := by rw [cell_of_row _ _ _ _ _ _ e6]; rfl
  have b1 : w5.cell? ⟨w.heap.size + 3, 1, none⟩ = some (.string ⟨#[]⟩) := by rw [cell_of_row _ _ _ _ _ _ e6]; rfl
  have b2 : w5.cell? ⟨w.heap.size + 3, 2, none⟩ = some (.bool false) := by rw [cell_of_row _ _ _ _ _ _ e6]; rfl
  have b3 : w5.cell? ⟨w.heap.size + 3, 3, none⟩ = some (.int .i64 0) := by rw [cell_of_row _ _ _ _ _ _ e6]; rfl
  have f0 : w5.frozen? ⟨w.heap.size + 3, 0, none⟩ = false := frozen_of_row w5 _ 0 _ 54 e6
  have f1 : w5.frozen? ⟨w.heap.size + 3, 1, none⟩ = false := frozen_of_row w5 _ 1 _ 54 e6
  have f2 : w5.frozen? ⟨w.heap.size + 3, 2, none⟩ = false := frozen_of_row w5 _ 2 _ 54 e6
  have f3 : w5.frozen? ⟨w.heap.size + 3, 3, none⟩ = false := frozen_of_row w5 _ 3 _ 54 e6
  have HBK : Hid _ := e6
  clear e6
  cases ck with
  | false =>
    have ho : R = none := by rw [← HR.out]; unfold entryO; rw [HCK.out]; rfl
    subst ho
    go_wp2
    (try simp only [Exit.inBlock, Exit.then])
    refine bodyPost_ret (results_entry2 rfl _ _ (w.heap.size + 3) 54 _ _ rfl (heap_four _ _ _ _ _ _ _ _ _ _ _ HBK.out) (by exact size23)) rfl ?_
    exact ⟨rfl, bel_four HBW.out (by omega) _ _ _ _⟩
  | true =>
    have ho : Hid (soleOf o.bs = R) := by show _ = _; rw [← HR.out]; unfold entryO; rw [HCK.out]; rfl
    have HO5 := HO.out w5 HBW.out
    have HSO : Hid _ := sole_any o.lo o.ln o.lc o.bs w5 HO5.leaf HO5.l1 HO5.l2
    rw [ho.out] at HSO
    clear HO5 b0 b1 b2 b3 f0 f1 f2 f3
    go_wp2_with fail
    refine Calls.mono HSO.out ?_
    rintro e w6 ⟨rfl, hb6⟩
    have HB6 : Hid (Below w.heap.size w w6) := HBW.out.trans (hb6.mono HBW.out.size)
    have e6 : w6.heap[w.heap.size + 3]? = some (.cells #[.string ⟨#[]⟩, .string ⟨#[]⟩, .bool false, .int .i64 0] 54 (0, 0)) := (hb6.block _ (by have := HB5.out.size; have := HB4.out.2; omega)).trans HBK.out
    have b0 : w6.cell? ⟨w.heap.size + 3, 0, none⟩ = some (.string ⟨#[]⟩) := by rw [cell_of_row _ _ _ _ _ _ e6]; rfl
    have b1 : w6.cell? ⟨w.heap.size + 3, 1, none⟩ = some (.string ⟨#[]⟩) := by rw [cell_of_row _ _ _ _ _ _ e6]; rfl
    have b2 : w6.cell? ⟨w.heap.size + 3, 2, none⟩ = some (.bool false) := by rw [cell_of_row _ _ _ _ _ _ e6]; rfl
    have b3 : w6.cell? ⟨w.heap.size + 3, 3, none⟩ = some (.int .i64 0) := by rw [cell_of_row _ _ _ _ _ _ e6]; rfl
    have f0 : w6.frozen? ⟨w.heap.size + 3, 0, none⟩ = false := frozen_of_row w6 _ 0 _ 54 e6
    have f1 : w6.frozen? ⟨w.heap.size + 3, 1, none⟩ = false := frozen_of_row w6 _ 1 _ 54 e6
    have f2 : w6.frozen? ⟨w.heap.size + 3, 2, none⟩ = false := frozen_of_row w6 _ 2 _ 54 e6
    have f3 : w6.frozen? ⟨w.heap.size + 3, 3, none⟩ = false := frozen_of_row w6 _ 3 _ 54 e6
    have HBK6 : Hid _ := e6
    clear hb6 e6 HSO e4
    cases R with
    | none =>
      simp only [soleV, encE]
      go_wp2
      (try simp only [Exit.inBlock, Exit.then])
      refine bodyPost_ret (results_entry2 rfl _ _ (w.heap.size + 3) 54 _ _ rfl (heap_four _ _ _ _ _ _ _ _ _ _ _ HBK6.out) (by exact size23)) rfl ?_
      exact ⟨rfl, bel_four HB6.out (by omega) _ _ _ _⟩
    | some x =>
      obtain ⟨k, v, d, q⟩ := x
      simp only [soleV, encE]
      go_wp2
      (try simp only [Exit.inBlock, Exit.then])
      refine bodyPost_ret (results_entry2 rfl _ _ (w.heap.size + 3) 54 _ _ rfl (heap_four _ _ _ _ _ _ _ _ _ _ _ HBK6.out) (by exact size23)) rfl ?_
      exact ⟨rfl, bel_four HB6.out (by omega) _ _ _ _⟩
end Go.Proofs.YtecacjddggljgaaDoor
namespace Go.Proofs.YtecacjddggljgaaDoor
open Go.RowKit Go.Sort Go.Shelf
set_option linter.unusedSectionVars false
variable [Inhabited E] [DecidableEq E]
def saM (a p : Int) (key : ByteArray) : Option E → Bool
  | some e => decide (a = p) && decide (cmpS key e.key < 0)
  | none => false
def saB (z : Int) (root : List UInt8) (n : Int) (key : ByteArray) (p : Int) (o : Opn) : Bool := saM o.at_ p key (entryO z root n o)
theorem frame3 (w : World) (o1 o2 : Obj) (A : Array Value) (t : TypeId) : ∀ W, W = ((w.alloc o1).alloc o2).alloc (.cells A t) → W.heap[w.heap.size]? = some o1 ∧ W.heap[w.heap.size + 1]? = some o2 ∧ W.heap[w.heap.size + 2]? = some (.cells A t (0, 0)) ∧ Below w.heap.size w W ∧ W.heap.size = w.heap.size + 3 := by
  rintro W rfl
  obtain ⟨h1, h2, h3, h4⟩ := Sm.frame2 (w.alloc o1) o2 A t
  simp only [show (w.alloc o1).heap.size = w.heap.size + 1 by simp] at h1 h2 h3 h4
  refine ⟨(h3.block w.heap.size (by omega)).trans (by rw [heap_alloc_get, if_pos rfl]), h1, h2, (bel_alloc w _).trans (h3.mono (by omega)), by rw [h4]⟩
theorem size48 : (Tryd.prog.info? 48).map (·.size) = some 36 := by kernel_rfl
theorem size30 : (Tryd.prog.info? 30).map (·.size) = some 3 := by kernel_rfl
theorem size26 : (Tryd.prog.info? 26).map (·.size) = some 1 := by kernel_rfl
set_option maxRecDepth 100000 in
set_option maxHeartbeats 2000000 in
theorem above_any (z lv n p : Int) (root : List UInt8) (k1 k2 key : ByteArray) (o : Opn) (w : World) (hr : root.length = 32) (hn : n ≤ 9223372036854775807) (hO : OpnV w o) (hK : Sm.WW w 1 Sm.ks) (hz0 : 1 < w.heap.size) (hz : -9223372036854775808 ≤ z ∧ z ≤ 9223372036854775807) :
    Calls Tryd.prog 51 #[.agg #[.int .i64 z], .agg (tabC lv n root k1 k2), .string key, .int .i64 p, .agg o.cells] w fun e w' => e = .returned (.bool (saB z root n key p o)) ∧ Below w.heap.size w w' := by
  obtain ⟨W3, HW3⟩ : ∃ W, Hid (W = ((w.alloc (.cells #[.int .i64 z] 26)).alloc (.cells (tabC lv n root k1 k2) 48)).alloc (.cells o.cells 30)) := ⟨_, rfl⟩
  obtain ⟨d1, d2, d3, d4, d5⟩ := frame3 w (.cells #[.int .i64 z] 26) (.cells (tabC lv n root k1 k2) 48) _ _ W3 HW3.out
  have HD : Hid (W3.heap[w.heap.size]? = some (.cells #[.int .i64 z] 26 (0, 0)) ∧ W3.heap[w.heap.size + 1]? = some (.cells (tabC lv n root k1 k2) 48 (0, 0)) ∧ W3.heap[w.heap.size + 2]? = some (.cells o.cells 30 (0, 0))) := ⟨d1, d2, d3⟩
  have HB3 : Hid (Below w.heap.size w W3 ∧ W3.heap.size = w.heap.size + 3) := ⟨d4, d5⟩
  have HC1 : Hid _ := entryOf_any z lv n root k1 k2 o W3 hr hn (hO.keep d4) (hK.below d4 hz0) (by omega) hz
  have HS : Hid ((Tryd.prog.info? 48).map (·.size) = some (tabC lv n root k1 k2).size ∧ (Tryd.prog.info? 30).map (·.size) = some o.cells.size ∧ (Tryd.prog.info? 26).map (·.size) = some 1) := ⟨by rw [size48, tabC_size lv n hr], by rw [size30]; rfl, size26⟩
  obtain ⟨R, HR⟩ : ∃ r, Hid (entryO z root n o = r) := ⟨_, rfl⟩
  obtain ⟨S, HSS⟩ : ∃ r, Hid (saB z root n key p o = r) := ⟨_, rfl⟩
  have HSU : Hid (S = saM o.at_ p key R) := by show _ = _; rw [← HSS.out, ← HR.out]; rfl
  rw [HR.out] at HC1
  rw [HSS.out]
  clear hO hK hz0 d1 d2 d3 d4 d5
  go_enter Tryd.func51, Tryd.ntmps51
  go_upto_region 1 with fail
  rw [← HW3.out]
  simp only [show w.heap.size + 1 + 1 = w.heap.size + 2 from rfl]
  go_wp2_with (first | (refine wpList_load_row rfl 26 (.tmp 5) rfl w.heap.size rfl 26 #[.int .i64 z] (0, 0) _ HD.out.1 Tryd.underlying26 rfl HS.out.2.2 ?_) | (refine wpList_load_row rfl 48 (.tmp 6) rfl (w.heap.size + 1) rfl 48 (tabC lv n root k1 k2) (0, 0) _ HD.out.2.1 Tryd.underlying48 rfl HS.out.1 ?_) | (refine wpList_load_row rfl 30 (.tmp 9) rfl (w.heap.size + 2) rfl 30 o.cells (0, 0) _ HD.out.2.2 Tryd.underlying30 rfl HS.out.2.1 ?_))
  refine Calls.mono HC1.out ?_
  rintro e w5 ⟨rfl, hb5⟩
  have HB5 : Hid (Below (w.heap.size + 3) W3 w5 ∧ Below w.heap.size w w5) := ⟨by have h := hb5; rw [HB3.out.2] at h; exact h, HB3.out.1.trans (hb5.mono HB3.out.1.size)⟩
  have hox : w5.heap[w.heap.size + 2]? = some (.cells o.cells 30 (0, 0)) := (HB5.out.1.block _ (by omega)).trans HD.out.2.2
  have c0 : w5.cell? ⟨w.heap.size + 2, 0, none⟩ = some (.int .i64 o.at_) := by rw [cell_of_row _ _ _ _ _ _ hox]; rfl
  have hlt : w.heap.size + 2 < w5.heap.size := (Array.getElem?_eq_some_iff.1 hox).1
  have HLT : Hid _ := hlt
  clear hb5 HC1 hox hlt
  cases R with
  | none =>
    simp only [soleV, encE]
    have hs : S = false := HSU.out
    subst hs
    go_wp2
    go_ret
    exact ⟨rfl, HB5.out.2.alloc HB5.out.2.size _⟩
  | some x =>
    obtain ⟨k, v, d, q⟩ := x
    have hl := less_cmpS key k
    have c1 : (w5.alloc (.cells #[.string k, .string v, .bool d, .int .i64 q] 54)).cell? ⟨w.heap.size + 2, 0, none⟩ = some (.int .i64 o.at_) := cell_kept (bel_alloc w5 _) HLT.out c0
    have c2 : (w5.alloc (.cells #[.string k, .string v, .bool d, .int .i64 q] 54)).cell? ⟨w5.heap.size, 0, none⟩ = some (.string k) := by rw [cell_of_row _ _ _ _ _ _ (heap_alloc_new w5 _)]; rfl
    clear c0
    have HSX : Hid (∀ x y, decide (o.at_ = p) = x → decide (cmpS key k < 0) = y → S = (x && y)) := fun x y h1 h2 => by rw [HSU.out]; show (decide (o.at_ = p) && decide (cmpS key k < 0)) = _; rw [h1, h2]
    simp only [soleV, encE]
    by_cases h1 : o.at_ = p
    · have z1 : (o.at_ == p) = true := by simpa using h1
      cases hb : Op.bytesLess key.toList k.toList with
      | true =>
        rw [hb] at hl
        have hs : S = true := HSX.out _ _ (decide_eq_true h1) hl.symm
        subst hs
        clear h1 hl HSU HSX
        go_wp2
        go_ret
        exact ⟨rfl, HB5.out.2.alloc HB5.out.2.size _⟩
      | false =>
        rw [hb] at hl
        have hs : S = false := HSX.out _ _ (decide_eq_true h1) hl.symm
        subst hs
        clear h1 hl HSU HSX
        go_wp2
        go_ret
        exact ⟨rfl, HB5.out.2.alloc HB5.out.2.size _⟩
    · have z1 : (o.at_ == p) = false := by simpa using h1
      have hs : S = false := HSX.out _ _ (decide_eq_false h1) rfl
      subst hs
      clear h1 hl HSU HSX
      go_wp2
      go_ret
      exact ⟨rfl, HB5.out.2.alloc HB5.out.2.size _⟩
end Go.Proofs.YtecacjddggljgaaDoor
namespace Go.Proofs.YtecacjddggljgaaDoor
open Go.RowKit Go.Sort Go.Shelf
set_option linter.unusedSectionVars false
variable [Inhabited E] [DecidableEq E]
def pointC (bt : Bool) (A B : Opn) : Array Value := #[.bool bt, .int .i64 A.at_, .slice A.lo A.ln A.lc, .slice A.po A.pn A.pc, .int .i64 B.at_, .slice B.lo B.ln B.lc, .slice B.po B.pn B.pc]
/-- What a point tells: nothing; that there is none; the entry. -/
def chkM (cv bt : Bool) (key : ByteArray) (ab : Bool) (em : Bool) : Option E → Option (Option E)
  | none => none
  | some a => if cv then (if bt then (if decide (cmpS a.key key < 0) && ab then some none else none) else (if decide (a.key = key) && em then some (some a) else none)) else none
def chkO (z : Int) (root : List UInt8) (n : Int) (k1 k2 key : ByteArray) (bt : Bool) (A B : Opn) : Option (Option E) := chkM (covB k1 k2 key) bt key (saB z root n key (A.at_ + 1) B) (emptyO B) (entryO z root n A)
def chkV : Option (Option E) → Value
  | none => .tuple #[.agg (encE zeroE).toArray, .bool false, .int .i64 8]
  | some none => .tuple #[.agg (encE zeroE).toArray, .bool false, .int .i64 0]
  | some (some e) => .tuple #[.agg (encE e).toArray, .bool true, .int .i64 0]
theorem entryO_at {z : Int} {root : List UInt8} {n : Int} {o : Opn} {e : E} (h : entryO z root n o = some e) : 0 ≤ o.at_ ∧ o.at_ < n := by
  unfold entryO at h
  split at h
  · rename_i hc
    unfold Sm.ckB at hc
    simp only [Bool.and_eq_true, decide_eq_true_eq] at hc
    exact ⟨hc.1.1, hc.1.2.1⟩
  · cases h
theorem load_midG {P : Program} {ops : Array Oper} {rest : List Oper} {op : Oper} {a : Act} {w : World} {Q : Exit → Act → World → Prop} (hw : Region.wanted op (yielded ops a.tmps) = true) (ty : TypeId) (x : Operand) (ho : op.op = .load ty x)
    (b o : Nat) (hx : a.eval x = .pointer (some ⟨b, o, none⟩)) (cs : List Value) (d : TypeDesc) (hc : w.rangeAt b o cs)
    (hu : P.underlying ty = some d) (hd : d.isRow = true) (hi : (P.info? ty).map (·.size) = some cs.length)
    (h : wpList P ops Q rest (a.put op.dst (.agg cs.toArray)) w) : wpList P ops Q (op :: rest) a w :=
  BigFrame.wpList_want hw fun _ hK => wp_load_mid ty x ho b o hx cs d hc hu hd hi (hK _ _ h)
theorem four_of {w : World} {g : Nat} {a b c d : Value} (h : w.heap[g]? = some (.cells #[a, b, c, d] 54 (0, 0))) : w.cell? ⟨g, 0, none⟩ = some a ∧ w.cell? ⟨g, 1, none⟩ = some b ∧ w.cell? ⟨g, 2, none⟩ = some c ∧ w.cell? ⟨g, 3, none⟩ = some d ∧ w.frozen? ⟨g, 0, none⟩ = false ∧ w.frozen? ⟨g, 1, none⟩ = false ∧ w.frozen? ⟨g, 2, none⟩ = false ∧ w.frozen? ⟨g, 3, none⟩ = false :=
  ⟨by rw [cell_of_row _ _ _ _ _ _ h]; rfl, by rw [cell_of_row _ _ _ _ _ _ h]; rfl, by rw [cell_of_row _ _ _ _ _ _ h]; rfl, by rw [cell_of_row _ _ _ _ _ _ h]; rfl, frozen_of_row w g 0 _ 54 h, frozen_of_row w g 1 _ 54 h, frozen_of_row w g 2 _ 54 h, frozen_of_row w g 3 _ 54 h⟩
set_option maxRecDepth 100000 in
set_option maxHeartbeats 3000000 in
theorem check12_any (z lv n : Int) (root : List UInt8) (k1 k2 key : ByteArray) (bt : Bool) (A B : Opn) (w : World) (hr : root.length = 32) (hn : n ≤ 9223372036854775807) (hA : OpnV w A) (hB : OpnV w B) (hK : Sm.WW w 1 Sm.ks) (hz0 : 1 < w.heap.size) (hz : -9223372036854775808 ≤ z ∧ z ≤ 9223372036854775807) :
    Calls Tryd.prog 23 #[.agg #[.int .i64 z], .agg (tabC lv n root k1 k2), .string key, .agg (pointC bt A B)] w fun e w' => e = .returned (chkV (chkO z root n k1 k2 key bt A B)) ∧ Below w.heap.size w w' := by
  obtain ⟨W4, HW4⟩ : ∃ W, Hid (W = (((w.alloc (.cells #[.int .i64 z] 26)).alloc (.cells (tabC lv n root k1 k2) 48)).alloc (.cells (pointC bt A B) 32)).alloc (.cells #[.string ⟨#[]⟩, .string ⟨#[]⟩, .bool false, .int .i64 0] 54)) := ⟨_, rfl⟩
  have HF4 : Hid _ := Sm.frame4 w (.cells #[.int .i64 z] 26) (.cells (tabC lv n root k1 k2) 48) (.cells (pointC bt A B) 32) _ _ W4 HW4.out
  have HBL : Hid (∀ V, Below (w.heap.size + 4) W4 V → V.heap[w.heap.size]? = some (.cells #[.int .i64 z] 26 (0, 0)) ∧ V.heap[w.heap.size + 1]? = some (.cells (tabC lv n root k1 k2) 48 (0, 0)) ∧ V.heap[w.heap.size + 2]? = some (.cells (pointC bt A B) 32 (0, 0)) ∧ V.heap[w.heap.size + 3]? = some (.cells #[.string ⟨#[]⟩, .string ⟨#[]⟩, .bool false, .int .i64 0] 54 (0, 0))) := fun V hV => by
    obtain ⟨h1, h2, h3, h4, -, h6⟩ := HF4.out
    exact ⟨(hV.block w.heap.size (by omega)).trans h1, (hV.block (w.heap.size + 1) (by omega)).trans h2, (hV.block (w.heap.size + 2) (by omega)).trans h3, (hV.block (w.heap.size + 3) (by omega)).trans h4⟩
  have HPT : Hid (∀ V, Below (w.heap.size + 4) W4 V → V.cell? ⟨w.heap.size + 2, 0, none⟩ = some (.bool bt) ∧ V.cell? ⟨w.heap.size + 2, 1, none⟩ = some (.int .i64 A.at_) ∧ V.rangeAt (w.heap.size + 2) 1 A.cells.toList ∧ V.rangeAt (w.heap.size + 2) 4 B.cells.toList) := fun V hV => by
    have h3 := (HBL.out V hV).2.2.1
    refine ⟨by rw [cell_of_row _ _ _ _ _ _ h3]; rfl, by rw [cell_of_row _ _ _ _ _ _ h3]; rfl, fun j v hj => ?_, fun j v hj => ?_⟩
    · rw [cell_of_row _ _ _ _ _ _ h3]
      have hj3 : j < 3 := (List.getElem?_eq_some_iff.1 hj).1
      match j, hj3, hj with
      | 0, _, hj => exact hj
      | 1, _, hj => exact hj
      | 2, _, hj => exact hj
    · rw [cell_of_row _ _ _ _ _ _ h3]
      have hj3 : j < 3 := (List.getElem?_eq_some_iff.1 hj).1
      match j, hj3, hj with
      | 0, _, hj => exact hj
      | 1, _, hj => exact hj
      | 2, _, hj => exact hj
  have HB4 : Hid (Below w.heap.size w W4 ∧ W4.heap.size = w.heap.size + 4) := ⟨HF4.out.2.2.2.2.1, HF4.out.2.2.2.2.2⟩
  have HSZ : Hid ((Tryd.prog.info? 48).map (·.size) = some (tabC lv n root k1 k2).size ∧ (Tryd.prog.info? 30).map (·.size) = some A.cells.toList.length ∧ (Tryd.prog.info? 30).map (·.size) = some B.cells.toList.length ∧ (Tryd.prog.info? 26).map (·.size) = some 1) := ⟨by rw [size48, tabC_size lv n hr], by rw [size30]; rfl, by rw [size30]; rfl, size26⟩
  have HKW : Hid (∀ V, Below w.heap.size w V → Sm.WW V 1 Sm.ks ∧ 1 < V.heap.size ∧ OpnV V A ∧ OpnV V B) := fun V hV => ⟨hK.below hV hz0, by have := hV.size; omega, hA.keep hV, hB.keep hV⟩
  have HEN : Hid (∀ V, Below w.heap.size w V → Calls Tryd.prog 50 #[.agg #[.int .i64 z], .agg (tabC lv n root k1 k2), .agg A.cells] V fun e w' => e = .returned (soleV (entryO z root n A)) ∧ Below V.heap.size V w') := fun V hV => entryOf_any z lv n root k1 k2 A V hr hn (HKW.out V hV).2.2.1 (HKW.out V hV).1 (HKW.out V hV).2.1 hz
  have HAB : Hid (∀ V, Below w.heap.size w V → Calls Tryd.prog 51 #[.agg #[.int .i64 z], .agg (tabC lv n root k1 k2), .string key, .int .i64 (A.at_ + 1), .agg B.cells] V fun e w' => e = .returned (.bool (saB z root n key (A.at_ + 1) B)) ∧ Below V.heap.size V w') := fun V hV => above_any z lv n (A.at_ + 1) root k1 k2 key B V hr hn (HKW.out V hV).2.2.2 (HKW.out V hV).1 (HKW.out V hV).2.1 hz
  have HEM : Hid (∀ V, Calls Tryd.prog 52 #[.agg B.cells] V fun e w' => e = .returned (.bool (emptyO B)) ∧ Below V.heap.size V w') := fun V => empty_any B V
  have HCV : Hid (∀ V, Calls Tryd.prog 18 #[.agg (tabC lv n root k1 k2), .string key] V fun e w' => e = .returned (.bool (covB k1 k2 key)) ∧ Below V.heap.size V w') := fun V => covers_any _ k1 k2 key V (tabC_at lv n hr k1 k2).2.2.1 (tabC_at lv n hr k1 k2).2.2.2
  have HRA : Hid (∀ e, entryO z root n A = some e → wrap64 (A.at_ + 1) = A.at_ + 1) := fun e he => by have := entryO_at he; unfold wrap64; omega
  obtain ⟨cv, HC1⟩ : ∃ b, Hid (covB k1 k2 key = b) := ⟨_, rfl⟩
  obtain ⟨ab, HC2⟩ : ∃ b, Hid (saB z root n key (A.at_ + 1) B = b) := ⟨_, rfl⟩
  obtain ⟨em, HC3⟩ : ∃ b, Hid (emptyO B = b) := ⟨_, rfl⟩
  obtain ⟨en, HC4⟩ : ∃ b, Hid (entryO z root n A = b) := ⟨_, rfl⟩
  obtain ⟨R, HR⟩ : ∃ r, Hid (chkO z root n k1 k2 key bt A B = r) := ⟨_, rfl⟩
  have HRR : Hid (R = chkM cv bt key ab em en) := by show _ = _; rw [← HR.out, ← HC1.out, ← HC2.out, ← HC3.out, ← HC4.out]; rfl
  rw [HC1.out] at HCV
  rw [HC2.out] at HAB
  rw [HC3.out] at HEM
  rw [HC4.out] at HEN HRA
  rw [HR.out]
  clear hA hB hK hz0 hz HR HC1 HC2 HC3 HC4 HKW
  go_enter Tryd.func23, Tryd.ntmps23
  go_upto_region 1 with fail
  rw [← HW4.out]
  simp only [show w.heap.size + 1 + 1 + 1 = w.heap.size + 3 from rfl, show w.heap.size + 1 + 1 = w.heap.size + 2 from rfl]
  have HD : Hid _ := HBL.out W4 (Below.refl _ _)
  go_wp2_with (refine wpList_load_row rfl 48 (.tmp 5) rfl (w.heap.size + 1) rfl 48 (tabC lv n root k1 k2) (0, 0) _ HD.out.2.1 Tryd.underlying48 rfl HSZ.out.1 ?_)
  refine (HCV.out W4).mono ?_
  rintro e w5 ⟨rfl, hb5⟩
  have HB5 : Hid (Below (w.heap.size + 4) W4 w5 ∧ Below w.heap.size w w5) := ⟨by have h := hb5; rw [HB4.out.2] at h; exact h, HB4.out.1.trans (hb5.mono HB4.out.1.size)⟩
  have HGE : Hid (w.heap.size + 4 ≤ w5.heap.size) := by show _ ≤ _; have := hb5.size; have := HB4.out.2; omega
  clear hb5 HD HCV
  cases cv with
  | false =>
    have HD5 : Hid _ := (HBL.out w5 HB5.out.1).2.2.2
    obtain ⟨b0, b1, b2, b3, f0, f1, f2, f3⟩ := four_of HD5.out
    have hR : R = none := by rw [HRR.out]; cases en <;> rfl
    subst hR
    go_wp2
    (try simp only [Exit.inBlock, Exit.then])
    refine bodyPost_ret (results_entry3 rfl _ _ (w.heap.size + 3) 54 _ _ rfl (heap_four _ _ _ _ _ _ _ _ _ _ _ HD5.out) (by exact size23)) rfl ?_
    exact ⟨rfl, bel_four HB5.out.2 (by omega) _ _ _ _⟩
  | true =>
    have HE5 := HEN.out w5 HB5.out.2
    obtain ⟨h1, h2, h3, -⟩ := HBL.out w5 HB5.out.1
    obtain ⟨-, -, hp1, -⟩ := HPT.out w5 HB5.out.1
    have HL : Hid _ := And.intro h1 (And.intro h2 hp1)
    have HEC : Hid _ := HE5
    clear h1 h2 h3 hp1 HE5
    go_upto_region 3 with fail
    go_wp2_with (first | (refine wpList_load_row rfl 26 (.tmp 4) rfl w.heap.size rfl 26 #[.int .i64 z] (0, 0) _ HL.out.1 Tryd.underlying26 rfl HSZ.out.2.2.2 ?_) | (refine wpList_load_row rfl 48 (.tmp 5) rfl (w.heap.size + 1) rfl 48 (tabC lv n root k1 k2) (0, 0) _ HL.out.2.1 Tryd.underlying48 rfl HSZ.out.1 ?_) | (refine wpList_load_mid rfl 30 (.tmp 21) rfl (w.heap.size + 2) 1 rfl A.cells.toList _ HL.out.2.2 Tryd.underlying30 rfl HSZ.out.2.1 ?_))
    refine Calls.mono HEC.out ?_
    rintro e w6 ⟨rfl, hb6⟩
    have HB6 : Hid (Below (w.heap.size + 4) W4 w6 ∧ Below w.heap.size w w6 ∧ w.heap.size + 4 ≤ w6.heap.size) := ⟨HB5.out.1.trans (hb6.mono HGE.out), HB5.out.2.trans (hb6.mono HB5.out.2.size), by have := hb6.size; have := HGE.out; omega⟩
    clear hb6 HEC HL HEN
    cases en with
    | none =>
      have hR : R = none := HRR.out
      subst hR
      simp only [soleV, encE]
      go_upto_region 4 with fail
      have HB9 : Hid (Below (w.heap.size + 4) W4 (w6.alloc (.cells #[.string zeroE.key, .string zeroE.value, .bool zeroE.del, .int .i64 zeroE.seq] 54)) ∧ Below w.heap.size w (w6.alloc (.cells #[.string zeroE.key, .string zeroE.value, .bool zeroE.del, .int .i64 zeroE.seq] 54))) := ⟨HB6.out.1.alloc HB6.out.2.2 _, HB6.out.2.1.alloc HB6.out.2.1.size _⟩
      generalize w6.alloc (.cells #[.string zeroE.key, .string zeroE.value, .bool zeroE.del, .int .i64 zeroE.seq] 54) = w7 at *
      have HD9 : Hid _ := (HBL.out w7 HB9.out.1).2.2.2
      obtain ⟨b0, b1, b2, b3, f0, f1, f2, f3⟩ := four_of HD9.out
      go_wp2
      (try simp only [Exit.inBlock, Exit.then])
      refine bodyPost_ret (results_entry3 rfl _ _ (w.heap.size + 3) 54 _ _ rfl (heap_four _ _ _ _ _ _ _ _ _ _ _ HD9.out) (by exact size23)) rfl ?_
      exact ⟨rfl, bel_four HB9.out.2 (by omega) _ _ _ _⟩
    | some x =>
      obtain ⟨k, v, d, q⟩ := x
      have hwr : wrap64 (A.at_ + 1) = A.at_ + 1 := HRA.out _ rfl
      simp only [soleV, encE]
      go_upto_region 4 with fail
      have HB7 : Hid (Below (w.heap.size + 4) W4 (w6.alloc (.cells #[.string k, .string v, .bool d, .int .i64 q] 54)) ∧ Below w.heap.size w (w6.alloc (.cells #[.string k, .string v, .bool d, .int .i64 q] 54)) ∧ (w6.alloc (.cells #[.string k, .string v, .bool d, .int .i64 q] 54)).heap[w6.heap.size]? = some (.cells #[.string k, .string v, .bool d, .int .i64 q] 54 (0, 0)) ∧ w.heap.size + 4 ≤ (w6.alloc (.cells #[.string k, .string v, .bool d, .int .i64 q] 54)).heap.size) := ⟨HB6.out.1.alloc HB6.out.2.2 _, HB6.out.2.1.alloc HB6.out.2.1.size _, heap_alloc_new w6 _, by have := HB6.out.2.2; simp; omega⟩
      generalize w6.alloc (.cells #[.string k, .string v, .bool d, .int .i64 q] 54) = w7 at *
      obtain ⟨g, HG⟩ : ∃ g, Hid (w6.heap.size = g) := ⟨_, rfl⟩
      rw [HG.out] at HB7
      rw [HG.out]
      have gk : w7.cell? ⟨g, 0, none⟩ = some (.string k) := by rw [cell_of_row _ _ _ _ _ _ HB7.out.2.2.1]; rfl
      obtain ⟨p0, p1, -, -⟩ := HPT.out w7 HB7.out.1
      have HB9 : Hid (Below (w.heap.size + 4) W4 w7 ∧ Below w.heap.size w w7) := ⟨HB7.out.1, HB7.out.2.1⟩
      have hl := less_cmpS k key
      cases bt with
      | true =>
        cases hb : Op.bytesLess k.toList key.toList with
        | false =>
          rw [hb] at hl
          have hR : R = none := by rw [HRR.out]; show chkM true true key ab em (some ⟨k, v, d, q⟩) = none; unfold chkM; simp only [← hl]; rfl
          subst hR
          clear hl hwr
          have HD9 : Hid _ := (HBL.out w7 HB9.out.1).2.2.2
          obtain ⟨b0, b1, b2, b3, f0, f1, f2, f3⟩ := four_of HD9.out
          go_wp2
          (try simp only [Exit.inBlock, Exit.then])
          refine bodyPost_ret (results_entry3 rfl _ _ (w.heap.size + 3) 54 _ _ rfl (heap_four _ _ _ _ _ _ _ _ _ _ _ HD9.out) (by exact size23)) rfl ?_
          exact ⟨rfl, bel_four HB9.out.2 (by omega) _ _ _ _⟩
        | true =>
          rw [hb] at hl
          have HRB : Hid (R = if ab then some none else none) := by show _ = _; rw [HRR.out]; show chkM true true key ab em (some ⟨k, v, d, q⟩) = _; unfold chkM; simp only [← hl]; cases ab <;> rfl
          obtain ⟨h1, h2, h3, -⟩ := HBL.out w7 HB7.out.1
          have HL : Hid _ := And.intro h1 (And.intro h2 (HPT.out w7 HB7.out.1).2.2.2)
          have HEC : Hid _ := HAB.out w7 HB7.out.2.1
          clear hl h1 h2 h3
          go_upto_region 6 with fail
          go_wp2_with (first | (refine Sm.wpList_load_rowG (by rfl) 26 (.tmp 4) rfl w.heap.size rfl 26 #[.int .i64 z] (0, 0) _ HL.out.1 Tryd.underlying26 rfl HSZ.out.2.2.2 ?_) | (refine Sm.wpList_load_rowG (by rfl) 48 (.tmp 5) rfl (w.heap.size + 1) rfl 48 (tabC lv n root k1 k2) (0, 0) _ HL.out.2.1 Tryd.underlying48 rfl HSZ.out.1 ?_) | (refine load_midG (by rfl) 30 (.tmp 47) rfl (w.heap.size + 2) 4 rfl B.cells.toList _ HL.out.2.2 Tryd.underlying30 rfl HSZ.out.2.2.1 ?_))
          refine Calls.mono HEC.out ?_
          rintro e w8 ⟨rfl, hb8⟩
          have HB8 : Hid (Below (w.heap.size + 4) W4 w8 ∧ Below w.heap.size w w8) := ⟨HB7.out.1.trans (hb8.mono HB7.out.2.2.2), HB7.out.2.1.trans (hb8.mono HB7.out.2.1.size)⟩
          obtain ⟨q0, q1, -, -⟩ := HPT.out w8 HB8.out.1
          have HB9b : Hid _ := HB8.out
          clear hb8 HEC HL p0 p1 gk HB9
          have HB9 : Hid (Below (w.heap.size + 4) W4 w8 ∧ Below w.heap.size w w8) := HB8.out
          cases ab with
          | false =>
            have hR : R = none := HRB.out
            subst hR
            clear HB9b
            have HD9 : Hid _ := (HBL.out w8 HB9.out.1).2.2.2
            obtain ⟨b0, b1, b2, b3, f0, f1, f2, f3⟩ := four_of HD9.out
            go_wp2
            (try simp only [Exit.inBlock, Exit.then])
            refine bodyPost_ret (results_entry3 rfl _ _ (w.heap.size + 3) 54 _ _ rfl (heap_four _ _ _ _ _ _ _ _ _ _ _ HD9.out) (by exact size23)) rfl ?_
            exact ⟨rfl, bel_four HB9.out.2 (by omega) _ _ _ _⟩
          | true =>
            have hR : R = some none := HRB.out
            subst hR
            clear HB9b
            have HD9 : Hid _ := (HBL.out w8 HB9.out.1).2.2.2
            obtain ⟨b0, b1, b2, b3, f0, f1, f2, f3⟩ := four_of HD9.out
            go_wp2
            (try simp only [Exit.inBlock, Exit.then])
            refine bodyPost_ret (results_entry3 rfl _ _ (w.heap.size + 3) 54 _ _ rfl (heap_four _ _ _ _ _ _ _ _ _ _ _ HD9.out) (by exact size23)) rfl ?_
            exact ⟨rfl, bel_four HB9.out.2 (by omega) _ _ _ _⟩
      | false =>
        have hq := eq_cmpS k key
        cases hb : (k.toList == key.toList) with
        | false =>
          rw [hb] at hq
          have hR : R = none := by rw [HRR.out]; show chkM true false key ab em (some ⟨k, v, d, q⟩) = none; unfold chkM; simp only [← hq]; rfl
          subst hR
          clear hq hwr hl
          have HD9 : Hid _ := (HBL.out w7 HB9.out.1).2.2.2
          obtain ⟨b0, b1, b2, b3, f0, f1, f2, f3⟩ := four_of HD9.out
          go_wp2
          (try simp only [Exit.inBlock, Exit.then])
          refine bodyPost_ret (results_entry3 rfl _ _ (w.heap.size + 3) 54 _ _ rfl (heap_four _ _ _ _ _ _ _ _ _ _ _ HD9.out) (by exact size23)) rfl ?_
          exact ⟨rfl, bel_four HB9.out.2 (by omega) _ _ _ _⟩
        | true =>
          rw [hb] at hq
          have HRB : Hid (R = if em then some (some ⟨k, v, d, q⟩) else none) := by show _ = _; rw [HRR.out]; show chkM true false key ab em (some ⟨k, v, d, q⟩) = _; unfold chkM; simp only [← hq]; cases em <;> rfl
          have HL : Hid _ := (HPT.out w7 HB7.out.1).2.2.2
          have HEC : Hid _ := HEM.out w7
          clear hq hl hwr
          go_upto_region 8 with fail
          go_wp2_with (refine load_midG (by rfl) 30 (.tmp 63) rfl (w.heap.size + 2) 4 rfl B.cells.toList _ HL.out Tryd.underlying30 rfl HSZ.out.2.2.1 ?_)
          refine Calls.mono HEC.out ?_
          rintro e w8 ⟨rfl, hb8⟩
          have HB8 : Hid (Below (w.heap.size + 4) W4 w8 ∧ Below w.heap.size w w8) := ⟨HB7.out.1.trans (hb8.mono HB7.out.2.2.2), HB7.out.2.1.trans (hb8.mono HB7.out.2.1.size)⟩
          have HG8 : Hid (w8.heap[g]? = some (.cells #[.string k, .string v, .bool d, .int .i64 q] 54 (0, 0))) := (hb8.block g (Array.getElem?_eq_some_iff.1 HB7.out.2.2.1).1).trans HB7.out.2.2.1
          clear hb8 HEC HL p0 p1 gk HB9
          have HB9 : Hid (Below (w.heap.size + 4) W4 w8 ∧ Below w.heap.size w w8) := HB8.out
          cases em with
          | false =>
            have hR : R = none := HRB.out
            subst hR
            have HD9 : Hid _ := (HBL.out w8 HB9.out.1).2.2.2
            obtain ⟨b0, b1, b2, b3, f0, f1, f2, f3⟩ := four_of HD9.out
            go_wp2
            (try simp only [Exit.inBlock, Exit.then])
            refine bodyPost_ret (results_entry3 rfl _ _ (w.heap.size + 3) 54 _ _ rfl (heap_four _ _ _ _ _ _ _ _ _ _ _ HD9.out) (by exact size23)) rfl ?_
            exact ⟨rfl, bel_four HB9.out.2 (by omega) _ _ _ _⟩
          | true =>
            have hR : R = some (some ⟨k, v, d, q⟩) := HRB.out
            subst hR
            obtain ⟨g0, g1, g2, g3, -⟩ := four_of HG8.out
            have HD9 : Hid _ := (HBL.out w8 HB9.out.1).2.2.2
            obtain ⟨b0, b1, b2, b3, f0, f1, f2, f3⟩ := four_of HD9.out
            go_wp2
            (try simp only [Exit.inBlock, Exit.then])
            refine bodyPost_ret (results_entry3 rfl _ _ (w.heap.size + 3) 54 _ _ rfl (heap_four _ _ _ _ _ _ _ _ _ _ _ HD9.out) (by exact size23)) rfl ?_
            exact ⟨rfl, bel_four HB9.out.2 (by omega) _ _ _ _⟩
end Go.Proofs.YtecacjddggljgaaDoor
