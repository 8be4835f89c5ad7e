/-
  What tree's Path, Range, Check and CheckRange answer, whatever is handed over: contracts over this translation. What seek.empty and seek.entryOf answer: contracts over this translation. What seek.standsAbove answers: a contract over this translation.
-/
import Derived.Test.YtecacjddggljgaaDoorPartCE
import Derived.Test.YtecacjddggljgaaDoorPartAH
import Derived.Test.YtecacjddggljgaaDoorPartBI
namespace Go.Proofs.YtecacjddggljgaaDoor.Sm
open Go.RowKit
/-- Is an opening taken? -/
def ckB (z : Int) (root : List UInt8) (n x : Int) (bs : List UInt8) (ds : List (List UInt8)) : Bool := decide (0 ≤ x ∧ x < n ∧ ds.length = (upL n.toNat x.toNat).length) && (climbD z (leafD z bs) (upL n.toNat x.toNat) ds == root)
/-- Is an opening of some leaves taken? -/
def crB (z : Int) (root : List UInt8) (n x : Int) (ls : List LV) (ds : List (List UInt8)) : Bool := decide (0 < ls.length ∧ 0 ≤ x ∧ x + ls.length ≤ n ∧ ds.length = (outL 0 n.toNat x.toNat (x.toNat + ls.length)).length) && (fillF z ls x.toNat (x.toNat + ls.length) 64 0 n.toNat ds == root)
def pathD (z : Int) (ls : List LV) (x : Int) : List (List UInt8) := if 0 ≤ x ∧ x < ls.length then besideD z ls (spanS (upL ls.length x.toNat)) else []
def pathE (n : Nat) (x : Int) : Int := if 0 ≤ x ∧ x < n then 0 else 1
def rangeD (z : Int) (ls : List LV) (x y : Int) : List (List UInt8) := if 0 ≤ x ∧ x < y ∧ y ≤ ls.length then besideD z ls (outL 0 ls.length x.toNat y.toNat) else []
def rangeE (n : Nat) (x y : Int) : Int := if 0 ≤ x ∧ x < y ∧ y ≤ n then 0 else 1
theorem check_any (z : Int) (root : List UInt8) (n x : Int) (lo : Option Addr) (ln lc : Nat) (bs : List UInt8) (ao : Option Addr) (L c : Nat) (ds : List (List UInt8)) (w : World) (hroot : root.length = 32) (hn : n ≤ 9223372036854775807) (hlen : ds.length = L) (hLc : L ≤ c) (hc : c ≤ 9223372036854775807) (hP : PathV w ao ds)
    (hb : Bytes w lo ln bs) (h0 : lo = none → lc = 0) (hln : ln ≤ 140737488355000) (hK : WW w 1 ks) (hz0 : 1 < w.heap.size) (hz : -9223372036854775808 ≤ z ∧ z ≤ 9223372036854775807) :
    Calls Tryd.prog 65 #[.agg #[.int .i64 z], dv root, .int .i64 n, .int .i64 x, .slice lo ln lc, .slice ao L c] w fun e w' => e = .returned (.bool (ckB z root n x bs ds)) ∧ Below w.heap.size w w' := by
  by_cases h1 : 0 ≤ x ∧ x < n
  · obtain ⟨n', rfl⟩ : ∃ m : Nat, n = (m : Int) := ⟨n.toNat, by omega⟩
    obtain ⟨x', rfl⟩ : ∃ m : Nat, x = (m : Int) := ⟨x.toNat, by omega⟩
    by_cases h2 : L = (upL n' x').length
    · have h := check_some z root n' x' lo ln lc bs ao L c ds w hroot (by omega) (by omega) hlen h2 hLc hc hP hb h0 hln hK hz0 hz
      have e : ckB z root (n' : Int) (x' : Int) bs ds = (climbD z (leafD z bs) (upL n' x') ds == root) := by
        unfold ckB
        rw [Int.toNat_natCast, Int.toNat_natCast, decide_eq_true ⟨h1.1, h1.2, by rw [hlen]; exact h2⟩, Bool.true_and]
      rw [e]; exact h
    · have h := check_len z root n' x' (.slice lo ln lc) ao L c w (by omega) (by omega) h2
      have e : ckB z root (n' : Int) (x' : Int) bs ds = false := by
        unfold ckB
        rw [Int.toNat_natCast, Int.toNat_natCast, decide_eq_false (fun h => h2 (by rw [← hlen]; exact h.2.2)), Bool.false_and]
      rw [e]; exact h
  · have h := check_wrong z root n x (.slice lo ln lc) (.slice ao L c) w h1
    have e : ckB z root n x bs ds = false := by
      unfold ckB
      rw [decide_eq_false (fun h => h1 ⟨h.1, h.2.1⟩), Bool.false_and]
    rw [e]; exact h
theorem crange_any (z : Int) (root : List UInt8) (n x : Int) (qo : Option Addr) (qn qc : Nat) (ls : List LV) (ao : Option Addr) (L pc : Nat) (ds : List (List UInt8)) (w : World) (hroot : root.length = 32) (hn : n ≤ 9223372036854775807) (hlen : ds.length = L) (hLc : L ≤ pc) (hP : PathV w ao ds)
    (hLs : LeavesV w qo qn qc ls) (hq1 : qn ≤ 1000) (hK : WW w 1 ks) (hz0 : 1 < w.heap.size) (hz : -9223372036854775808 ≤ z ∧ z ≤ 9223372036854775807) :
    Calls Tryd.prog 54 #[.agg #[.int .i64 z], dv root, .int .i64 n, .int .i64 x, .slice qo qn qc, .slice ao L pc] w fun e w' => e = .returned (.bool (crB z root n x ls ds)) ∧ Below w.heap.size w w' := by
  have hlq := hLs.1
  subst hlq
  by_cases h1 : 0 < ls.length ∧ 0 ≤ x ∧ x + ls.length ≤ n
  · obtain ⟨n', rfl⟩ : ∃ m : Nat, n = (m : Int) := ⟨n.toNat, by omega⟩
    obtain ⟨x', rfl⟩ : ∃ m : Nat, x = (m : Int) := ⟨x.toNat, by omega⟩
    obtain ⟨qb, qf, rfl, -⟩ := hLs.2.2.2 h1.1
    by_cases h2 : L = (outL 0 n' x' (x' + ls.length)).length
    · have h := crange_some z root n' x' qb qf ls.length qc ls ao L pc ds w hroot h1.1 (by omega) (by omega) hlen h2 hLc hP hLs hq1 hK hz0 hz
      have e : crB z root (n' : Int) (x' : Int) ls ds = (fillF z ls x' (x' + ls.length) 64 0 n' ds == root) := by
        unfold crB
        rw [Int.toNat_natCast, Int.toNat_natCast, decide_eq_true ⟨h1.1, h1.2.1, h1.2.2, by rw [hlen]; exact h2⟩, Bool.true_and]
      rw [e]; exact h
    · have h := crange_len z root n' x' (some ⟨qb, qf, none⟩) ls.length qc ao L pc w h1.1 (by omega) (by omega) h2
      have e : crB z root (n' : Int) (x' : Int) ls ds = false := by
        unfold crB
        rw [Int.toNat_natCast, Int.toNat_natCast, decide_eq_false (fun h => h2 (by rw [← hlen]; exact h.2.2.2)), Bool.false_and]
      rw [e]; exact h
  · have h := crange_wrong z root n x qo ls.length qc (.slice ao L pc) w hn h1
    have e : crB z root n x ls ds = false := by
      unfold crB
      rw [decide_eq_false (fun h => h1 ⟨h.1, h.2.1, h.2.2.1⟩), Bool.false_and]
    rw [e]; exact h
theorem path_any (z : Int) (ao : Option Addr) (n c : Nat) (ls : List LV) (x : Int) (w : World) (hL : LeavesV w ao n c ls) (hn : n ≤ 1000) (hK : WW w 1 ks) (hz0 : 1 < w.heap.size) (hz : -9223372036854775808 ≤ z ∧ z ≤ 9223372036854775807) :
    Calls Tryd.prog 70 #[.agg #[.int .i64 z], .slice ao n c, .int .i64 x] w fun e w' => ∃ v, e = .returned (.tuple #[v, .int .i64 (pathE n x)]) ∧ DgV w' w.heap.size v (pathD z ls x) ∧ Below w.heap.size w w' := by
  have hlq := hL.1
  unfold pathE pathD
  by_cases h1 : 0 ≤ x ∧ x < n
  · obtain ⟨x', rfl⟩ : ∃ m : Nat, x = (m : Int) := ⟨x.toNat, by omega⟩
    obtain ⟨b, off, rfl, -⟩ := hL.2.2.2 (by omega)
    have h := path_some z b off n c ls x' w hL hn (by omega) hK hz0 hz
    rw [if_pos h1, if_pos (by rw [hlq]; exact h1), Int.toNat_natCast, hlq]; exact h
  · rw [if_neg h1, if_neg (by rw [hlq]; exact h1)]
    refine (path_wrong z ao n c x w h1).mono ?_
    rintro e w' ⟨rfl, hb⟩
    exact ⟨_, rfl, dgv_nil _ _, hb⟩
theorem range_any (z : Int) (ao : Option Addr) (n c : Nat) (ls : List LV) (x y : Int) (w : World) (hL : LeavesV w ao n c ls) (hn : n ≤ 1000) (hK : WW w 1 ks) (hz0 : 1 < w.heap.size) (hz : -9223372036854775808 ≤ z ∧ z ≤ 9223372036854775807) :
    Calls Tryd.prog 44 #[.agg #[.int .i64 z], .slice ao n c, .int .i64 x, .int .i64 y] w fun e w' => ∃ v, e = .returned (.tuple #[v, .int .i64 (rangeE n x y)]) ∧ DgV w' w.heap.size v (rangeD z ls x y) ∧ Below w.heap.size w w' := by
  have hlq := hL.1
  unfold rangeE rangeD
  by_cases h1 : 0 ≤ x ∧ x < y ∧ y ≤ n
  · obtain ⟨x', rfl⟩ : ∃ m : Nat, x = (m : Int) := ⟨x.toNat, by omega⟩
    obtain ⟨y', rfl⟩ : ∃ m : Nat, y = (m : Int) := ⟨y.toNat, by omega⟩
    obtain ⟨b, off, rfl, -⟩ := hL.2.2.2 (by omega)
    have h := range_some z b off n c ls x' y' w hL hn (by omega) (by omega) hK hz0 hz
    rw [if_pos h1, if_pos (by rw [hlq]; exact h1), Int.toNat_natCast, Int.toNat_natCast, hlq]; exact h
  · rw [if_neg h1, if_neg (by rw [hlq]; exact h1)]
    refine (range_wrong z ao n c x y w h1).mono ?_
    rintro e w' ⟨rfl, hb⟩
    exact ⟨_, rfl, dgv_nil _ _, hb⟩
end Go.Proofs.YtecacjddggljgaaDoor.Sm
namespace Go.Proofs.YtecacjddggljgaaDoor
open Go.RowKit Go.Sort Go.Shelf
set_option linter.unusedSectionVars false
variable [Inhabited E] [DecidableEq E]
/-- An opening as it lies: its place, its leaf, its path. -/
structure Opn where
  at_ : Int
  lo : Option Addr
  ln : Nat
  lc : Nat
  bs : List UInt8
  po : Option Addr
  pn : Nat
  pc : Nat
  ds : List (List UInt8)
def Opn.cells (o : Opn) : Array Value := #[.int .i64 o.at_, .slice o.lo o.ln o.lc, .slice o.po o.pn o.pc]
structure OpnV (w : World) (o : Opn) : Prop where
  leaf : Bytes w o.lo o.ln o.bs
  l0 : o.lo = none → o.lc = 0
  l1 : o.ln ≤ o.lc
  l2 : o.lc ≤ 9223372036854775807
  l3 : o.ln ≤ 140737488355000
  len : o.ds.length = o.pn
  p1 : o.pn ≤ o.pc
  p2 : o.pc ≤ 9223372036854775807
  path : Sm.PathV w o.po o.ds
theorem OpnV.keep {w w' : World} {o : Opn} (h : OpnV w o) (hb : Below w.heap.size w w') : OpnV w' o :=
  ⟨bytes_kept h.leaf hb (Nat.le_refl _), h.l0, h.l1, h.l2, h.l3, h.len, h.p1, h.p2, h.path.below hb (Nat.le_refl _)⟩
def emptyO (o : Opn) : Bool := decide (o.at_ = 0) && (decide (o.ln = 0) && decide (o.pn = 0))
theorem cellsT3 (w : World) (a b c : Value) (t : TypeId) : (w.alloc (.cells #[a, b, c] t)).cell? ⟨w.heap.size, 0, none⟩ = some a ∧ (w.alloc (.cells #[a, b, c] t)).cell? ⟨w.heap.size, 1, none⟩ = some b ∧ (w.alloc (.cells #[a, b, c] t)).cell? ⟨w.heap.size, 2, none⟩ = some c :=
  ⟨by rw [cell_of_row _ _ _ _ _ _ (heap_alloc_new w _)]; rfl, by rw [cell_of_row _ _ _ _ _ _ (heap_alloc_new w _)]; rfl, by rw [cell_of_row _ _ _ _ _ _ (heap_alloc_new w _)]; rfl⟩
set_option maxRecDepth 100000 in
set_option maxHeartbeats 1000000 in
theorem empty_any (o : Opn) (w : World) : Calls Tryd.prog 52 #[.agg o.cells] w fun e w' => e = .returned (.bool (emptyO o)) ∧ Below w.heap.size w w' := by
  obtain ⟨c0, c1, c2⟩ := cellsT3 w (.int .i64 o.at_) (.slice o.lo o.ln o.lc) (.slice o.po o.pn o.pc) 30
  have HR : Hid (∀ x y z, decide (o.at_ = 0) = x → decide (o.ln = 0) = y → decide (o.pn = 0) = z → emptyO o = (x && (y && z))) := fun x y z h1 h2 h3 => by unfold emptyO; rw [h1, h2, h3]
  obtain ⟨R, HRR⟩ : ∃ r, Hid (emptyO o = r) := ⟨_, rfl⟩
  rw [HRR.out] at HR
  rw [HRR.out]
  unfold Opn.cells
  go_enter Tryd.func52, Tryd.ntmps52
  by_cases h1 : o.at_ = 0
  · have z1 : (o.at_ == (0 : Int)) = true := by simpa using h1
    by_cases h2 : o.ln = 0
    · have z2 : ((o.ln : Int) == 0) = true := by simp; omega
      by_cases h3 : o.pn = 0
      · have z3 : ((o.pn : Int) == 0) = true := by simp; omega
        have HX : Hid _ := HR.out _ _ _ (decide_eq_true h1) (decide_eq_true h2) (decide_eq_true h3)
        clear h1 h2 h3 HR
        go_wp2
        go_ret
        exact ⟨by rw [HX.out]; rfl, bel_alloc _ _⟩
      · have z3 : ((o.pn : Int) == 0) = false := by simp; omega
        have HX : Hid _ := HR.out _ _ _ (decide_eq_true h1) (decide_eq_true h2) (decide_eq_false h3)
        clear h1 h2 h3 HR
        go_wp2
        go_ret
        exact ⟨by rw [HX.out]; rfl, bel_alloc _ _⟩
    · have z2 : ((o.ln : Int) == 0) = false := by simp; omega
      have HX : Hid _ := HR.out _ _ _ (decide_eq_true h1) (decide_eq_false h2) rfl
      clear h1 h2 HR
      go_wp2
      go_ret
      exact ⟨by rw [HX.out]; rfl, bel_alloc _ _⟩
  · have z1 : (o.at_ == (0 : Int)) = false := by simpa using h1
    have HX : Hid _ := HR.out _ _ _ (decide_eq_false h1) rfl rfl
    clear h1 HR
    go_wp2
    go_ret
    exact ⟨by rw [HX.out]; rfl, bel_alloc _ _⟩
/-- The entry that an opening shows. -/
def entryO (z : Int) (root : List UInt8) (n : Int) (o : Opn) : Option E := if Sm.ckB z root n o.at_ o.bs o.ds then soleOf o.bs else none
theorem tabC_at (lv n : Int) {d : List UInt8} (h : d.length = 32) (k1 k2 : ByteArray) : (tabC lv n d k1 k2)[1]? = some (.int .i64 n) ∧ (∀ j v, (cellsOf d)[j]? = some v → (tabC lv n d k1 k2)[2 + j]? = some v) ∧ (tabC lv n d k1 k2)[34]? = some (.string k1) ∧ (tabC lv n d k1 k2)[35]? = some (.string k2) := by
  unfold tabC
  refine ⟨rfl, fun j v hj => ?_, ?_, ?_⟩
  · have hl : j < (cellsOf d).length := (List.getElem?_eq_some_iff.1 hj).1
    rw [Nat.add_comm]
    simp only [List.getElem?_toArray]
    show (cellsOf d ++ _)[j]? = _
    rw [List.getElem?_append_left hl]; exact hj
  · simp only [List.getElem?_toArray]
    show (cellsOf d ++ _)[32]? = _
    rw [List.getElem?_append_right (by rw [cellsOf_length, h]; omega), cellsOf_length, h]; rfl
  · simp only [List.getElem?_toArray]
    show (cellsOf d ++ _)[33]? = _
    rw [List.getElem?_append_right (by rw [cellsOf_length, h]; omega), cellsOf_length, h]; rfl
set_option maxRecDepth 100000 in
set_option maxHeartbeats 2000000 in
theorem entryOf_any (z lv n : Int) (root : List UInt8) (k1 k2 : ByteArray) (o : Opn) (w : World) (hr : root.length = 32) (hn : n ≤ 9223372036854775807) (hO : OpnV w o) (hK : Sm.WW w 1 Sm.ks) (hz0 : 1 < w.heap.size) (hz : -9223372036854775808 ≤ z ∧ z ≤ 9223372036854775807) :
    Calls Tryd.prog 50 #[.agg #[.int .i64 z], .agg (tabC lv n root k1 k2), .agg o.cells] w fun e w' => e = .returned (soleV (entryO z root n o)) ∧ Below w.heap.size w w' := by
  have HO : Hid (∀ W, Below w.heap.size w W → OpnV W o) := fun W hW => hO.keep hW
  obtain ⟨W4, HW4⟩ : ∃ W, Hid (W = (((w.alloc (.cells #[.int .i64 z] 26)).alloc (.cells (tabC lv n root k1 k2) 48)).alloc (.cells o.cells 30)).alloc (.cells #[.string ⟨#[]⟩, .string ⟨#[]⟩, .bool false, .int .i64 0] 54)) := ⟨_, rfl⟩
  have HF4 : Hid _ := Sm.frame4 w (.cells #[.int .i64 z] 26) (.cells (tabC lv n root k1 k2) 48) (.cells o.cells 30) _ _ W4 HW4.out
  obtain ⟨t1, t2, -, -⟩ := tabC_at lv n hr k1 k2
  have HC : Hid (∀ V, Below (w.heap.size + 4) W4 V → V.heap[w.heap.size]? = some (.cells #[.int .i64 z] 26 (0, 0)) ∧ V.cell? ⟨w.heap.size + 1, 1, none⟩ = some (.int .i64 n) ∧ V.rangeAt (w.heap.size + 1) 2 (cellsOf root) ∧ V.cell? ⟨w.heap.size + 2, 0, none⟩ = some (.int .i64 o.at_) ∧ V.cell? ⟨w.heap.size + 2, 1, none⟩ = some (.slice o.lo o.ln o.lc) ∧ V.cell? ⟨w.heap.size + 2, 2, none⟩ = some (.slice o.po o.pn o.pc) ∧ V.heap[w.heap.size + 3]? = some (.cells #[.string ⟨#[]⟩, .string ⟨#[]⟩, .bool false, .int .i64 0] 54 (0, 0))) := fun V hV => by
    obtain ⟨h1, h2, h3, h4, -, h6⟩ := HF4.out
    have g1 := (hV.block w.heap.size (by omega)).trans h1
    have g2 := (hV.block (w.heap.size + 1) (by omega)).trans h2
    have g3 := (hV.block (w.heap.size + 2) (by omega)).trans h3
    have g4 := (hV.block (w.heap.size + 3) (by omega)).trans h4
    refine ⟨g1, by rw [cell_of_row _ _ _ _ _ _ g2]; exact t1, fun j v hj => by rw [cell_of_row _ _ _ _ _ _ g2]; exact t2 j v hj, by rw [cell_of_row _ _ _ _ _ _ g3]; rfl, by rw [cell_of_row _ _ _ _ _ _ g3]; rfl, by rw [cell_of_row _ _ _ _ _ _ g3]; rfl, g4⟩
  have HB4 : Hid (Below w.heap.size w W4 ∧ W4.heap.size = w.heap.size + 4) := ⟨HF4.out.2.2.2.2.1, HF4.out.2.2.2.2.2⟩
  have HKW : Hid (∀ V, Below w.heap.size w V → Sm.WW V 1 Sm.ks ∧ 1 < V.heap.size) := fun V hV => ⟨hK.below hV hz0, by have := hV.size; omega⟩
  obtain ⟨R, HR⟩ : ∃ r, Hid (entryO z root n o = r) := ⟨_, rfl⟩
  rw [HR.out]
  have HC1 : Hid _ := (Sm.check_any z root n o.at_ o.lo o.ln o.lc o.bs o.po o.pn o.pc o.ds W4 hr hn hO.len hO.p1 hO.p2 (HO.out W4 HB4.out.1).path (HO.out W4 HB4.out.1).leaf hO.l0 hO.l3 (HKW.out W4 HB4.out.1).1 (HKW.out W4 HB4.out.1).2 hz)
  obtain ⟨ck, HCK⟩ : ∃ b, Hid (Sm.ckB z root n o.at_ o.bs o.ds = b) := ⟨_, rfl⟩
  rw [HCK.out] at HC1
  obtain ⟨d0, d1, d2, d3, d4, d5, d6⟩ := HC.out W4 (Below.refl _ _)
  have c0 : W4.cell? ⟨w.heap.size, 0, none⟩ = some (.int .i64 z) := by rw [cell_of_row _ _ _ _ _ _ d0]; rfl
  have HRG : Hid _ := d2
  have HD0 : Hid _ := d0
  have HSR : Hid ((Tryd.prog.info? 46).map (·.size) = some (cellsOf root).length) := by show _ = _; rw [Sm.size24, cellsOf_length, hr]
  have HS26 : Hid ((Tryd.prog.info? 26).map (·.size) = some 1) := by show _ = _; kernel_rfl
  clear hO hK hz0 t1 t2 d0 d2 d6
  go_enter Tryd.func50, Tryd.ntmps50
  go_upto_region 1 with fail
  rw [← HW4.out]
  simp only [show w.heap.size + 1 + 1 + 1 = w.heap.size + 3 from rfl, show w.heap.size + 1 + 1 = w.heap.size + 2 from rfl]
  go_wp2_with (first | (refine wpList_load_row rfl 26 (.tmp 3) rfl w.heap.size rfl 26 #[.int .i64 z] (0, 0) _ HD0.out Tryd.underlying26 rfl HS26.out ?_) | (refine wpList_load_mid rfl 46 (.tmp 9) rfl (w.heap.size + 1) 2 rfl (cellsOf root) _ HRG.out Tryd.underlying46 rfl HSR.out ?_))
  refine Calls.mono HC1.out ?_
  rintro e w5 ⟨rfl, hb5⟩
  have HB5 : Hid (Below (w.heap.size + 4) W4 w5) := by have h := hb5; rw [HB4.out.2] at h; exact h
  have HBW : Hid (Below w.heap.size w w5) := HB4.out.1.trans (hb5.mono HB4.out.1.size)
  clear hb5 HC1 d1 d3 d4 d5 c0
  obtain ⟨-, -, -, -, e4, -, e6⟩ := HC.out w5 HB5.out
  have b0 : w5.cell? ⟨w.heap.size + 3, 0, none⟩ = some (.string ⟨#[]⟩) := by rw [cell_of_row _ _ _ _ _ _ e6]; rfl
  have b1 : w5.cell? ⟨w.heap.size + 3, 1, none⟩ = some (.string ⟨#[]⟩) := by rw [cell_of_row _ _ _ _ _ _ e6]; rfl
  have b2 : w5.cell? ⟨w.heap.size + 3, 2, none⟩ = some (.bool false) := by rw [cell_of_row _ _ _ _ _ _ e6]; rfl
  have b3 : w5.cell? ⟨w.heap.size + 3, 3, none⟩ = some (.int .i64 0) := by rw [cell_of_row _ _ _ _ _ _ e6]; rfl
  have f0 : w5.frozen? ⟨w.heap.size + 3, 0, none⟩ = false := frozen_of_row w5 _ 0 _ 54 e6
  have f1 : w5.frozen? ⟨w.heap.size + 3, 1, none⟩ = false := frozen_of_row w5 _ 1 _ 54 e6
  have f2 : w5.frozen? ⟨w.heap.size + 3, 2, none⟩ = false := frozen_of_row w5 _ 2 _ 54 e6
  have f3 : w5.frozen? ⟨w.heap.size + 3, 3, none⟩ = false := frozen_of_row w5 _ 3 _ 54 e6
  have HBK : Hid _ := e6
  clear e6
  cases ck with
  | false =>
    have ho : R = none := by rw [← HR.out]; unfold entryO; rw [HCK.out]; rfl
    subst ho
    go_wp2
    (try simp only [Exit.inBlock, Exit.then])
    refine bodyPost_ret (results_entry2 rfl _ _ (w.heap.size + 3) 54 _ _ rfl (heap_four _ _ _ _ _ _ _ _ _ _ _ HBK.out) (by exact size23)) rfl ?_
    exact ⟨rfl, bel_four HBW.out (by omega) _ _ _ _⟩
  | true =>
    have ho : Hid (soleOf o.bs = R) := by show _ = _; rw [← HR.out]; unfold entryO; rw [HCK.out]; rfl
    have HO5 := HO.out w5 HBW.out
    have HSO : Hid _ := sole_any o.lo o.ln o.lc o.bs w5 HO5.leaf HO5.l1 HO5.l2
    rw [ho.out] at HSO
    clear HO5 b0 b1 b2 b3 f0 f1 f2 f3
    go_wp2_with fail
    refine Calls.mono HSO.out ?_
    rintro e w6 ⟨rfl, hb6⟩
    have HB6 : Hid (Below w.heap.size w w6) := HBW.out.trans (hb6.mono HBW.out.size)
    have e6 : w6.heap[w.heap.size + 3]? = some (.cells #[.string ⟨#[]⟩, .string ⟨#[]⟩, .bool false, .int .i64 0] 54 (0, 0)) := (hb6.block _ (by have := HB5.out.size; have := HB4.out.2; omega)).trans HBK.out
    have b0 : w6.cell? ⟨w.heap.size + 3, 0, none⟩ = some (.string ⟨#[]⟩) := by rw [cell_of_row _ _ _ _ _ _ e6]; rfl
    have b1 : w6.cell? ⟨w.heap.size + 3, 1, none⟩ = some (.string ⟨#[]⟩) := by rw [cell_of_row _ _ _ _ _ _ e6]; rfl
    have b2 : w6.cell? ⟨w.heap.size + 3, 2, none⟩ = some (.bool false) := by rw [cell_of_row _ _ _ _ _ _ e6]; rfl
    have b3 : w6.cell? ⟨w.heap.size + 3, 3, none⟩ = some (.int .i64 0) := by rw [cell_of_row _ _ _ _ _ _ e6]; rfl
    have f0 : w6.frozen? ⟨w.heap.size + 3, 0, none⟩ = false := frozen_of_row w6 _ 0 _ 54 e6
    have f1 : w6.frozen? ⟨w.heap.size + 3, 1, none⟩ = false := frozen_of_row w6 _ 1 _ 54 e6
    have f2 : w6.frozen? ⟨w.heap.size + 3, 2, none⟩ = false := frozen_of_row w6 _ 2 _ 54 e6
    have f3 : w6.frozen? ⟨w.heap.size + 3, 3, none⟩ = false := frozen_of_row w6 _ 3 _ 54 e6
    have HBK6 : Hid _ := e6
    clear hb6 e6 HSO e4
    cases R with
    | none =>
      simp only [soleV, encE]
      go_wp2
      (try simp only [Exit.inBlock, Exit.then])
      refine bodyPost_ret (results_entry2 rfl _ _ (w.heap.size + 3) 54 _ _ rfl (heap_four _ _ _ _ _ _ _ _ _ _ _ HBK6.out) (by exact size23)) rfl ?_
      exact ⟨rfl, bel_four HB6.out (by omega) _ _ _ _⟩
    | some x =>
      obtain ⟨k, v, d, q⟩ := x
      simp only [soleV, encE]
      go_wp2
      (try simp only [Exit.inBlock, Exit.then])
      refine bodyPost_ret (results_entry2 rfl _ _ (w.heap.size + 3) 54 _ _ rfl (heap_four _ _ _ _ _ _ _ _ _ _ _ HBK6.out) (by exact size23)) rfl ?_
      exact ⟨rfl, bel_four HB6.out (by omega) _ _ _ _⟩
end Go.Proofs.YtecacjddggljgaaDoor
namespace Go.Proofs.YtecacjddggljgaaDoor
open Go.RowKit Go.Sort Go.Shelf
set_option linter.unusedSectionVars false
variable [Inhabited E] [DecidableEq E]
def saM (a p : Int) (key : ByteArray) : Option E → Bool
  | some e => decide (a = p) && decide (cmpS key e.key < 0)
  | none => false
def saB (z : Int) (root : List UInt8) (n : Int) (key : ByteArray) (p : Int) (o : Opn) : Bool := saM o.at_ p key (entryO z root n o)
theorem frame3 (w : World) (o1 o2 : Obj) (A : Array Value) (t : TypeId) : ∀ W, W = ((w.alloc o1).alloc o2).alloc (.cells A t) → W.heap[w.heap.size]? = some o1 ∧ W.heap[w.heap.size + 1]? = some o2 ∧ W.heap[w.heap.size + 2]? = some (.cells A t (0, 0)) ∧ Below w.heap.size w W ∧ W.heap.size = w.heap.size + 3 := by
  rintro W rfl
  obtain ⟨h1, h2, h3, h4⟩ := Sm.frame2 (w.alloc o1) o2 A t
  simp only [show (w.alloc o1).heap.size = w.heap.size + 1 by simp] at h1 h2 h3 h4
  refine ⟨(h3.block w.heap.size (by omega)).trans (by rw [heap_alloc_get, if_pos rfl]), h1, h2, (bel_alloc w _).trans (h3.mono (by omega)), by rw [h4]⟩
theorem size48 : (Tryd.prog.info? 48).map (·.size) = some 36 := by kernel_rfl
theorem size30 : (Tryd.prog.info? 30).map (·.size) = some 3 := by kernel_rfl
theorem size26 : (Tryd.prog.info? 26).map (·.size) = some 1 := by kernel_rfl
set_option maxRecDepth 100000 in
set_option maxHeartbeats 2000000 in
theorem above_any (z lv n p : Int) (root : List UInt8) (k1 k2 key : ByteArray) (o : Opn) (w : World) (hr : root.length = 32) (hn : n ≤ 9223372036854775807) (hO : OpnV w o) (hK : Sm.WW w 1 Sm.ks) (hz0 : 1 < w.heap.size) (hz : -9223372036854775808 ≤ z ∧ z ≤ 9223372036854775807) :
    Calls Tryd.prog 51 #[.agg #[.int .i64 z], .agg (tabC lv n root k1 k2), .string key, .int .i64 p, .agg o.cells] w fun e w' => e = .returned (.bool (saB z root n key p o)) ∧ Below w.heap.size w w' := by
  obtain ⟨W3, HW3⟩ : ∃ W, Hid (W = ((w.alloc (.cells #[.int .i64 z] 26)).alloc (.cells (tabC lv n root k1 k2) 48)).alloc (.cells o.cells 30)) := ⟨_, rfl⟩
  obtain ⟨d1, d2, d3, d4, d5⟩ := frame3 w (.cells #[.int .i64 z] 26) (.cells (tabC lv n root k1 k2) 48) _ _ W3 HW3.out
  have HD : Hid (W3.heap[w.heap.size]? = some (.cells #[.int .i64 z] 26 (0, 0)) ∧ W3.heap[w.heap.size + 1]? = some (.cells (tabC lv n root k1 k2) 48 (0, 0)) ∧ W3.heap[w.heap.size + 2]? = some (.cells o.cells 30 (0, 0))) := ⟨d1, d2, d3⟩
  have HB3 : Hid (Below w.heap.size w W3 ∧ W3.heap.size = w.heap.size + 3) := ⟨d4, d5⟩
  have HC1 : Hid _ := entryOf_any z lv n root k1 k2 o W3 hr hn (hO.keep d4) (hK.below d4 hz0) (by omega) hz
  have HS : Hid ((Tryd.prog.info? 48).map (·.size) = some (tabC lv n root k1 k2).size ∧ (Tryd.prog.info? 30).map (·.size) = some o.cells.size ∧ (Tryd.prog.info? 26).map (·.size) = some 1) := ⟨by rw [size48, tabC_size lv n hr], by rw [size30]; rfl, size26⟩
  obtain ⟨R, HR⟩ : ∃ r, Hid (entryO z root n o = r) := ⟨_, rfl⟩
  obtain ⟨S, HSS⟩ : ∃ r, Hid (saB z root n key p o = r) := ⟨_, rfl⟩
  have HSU : Hid (S = saM o.at_ p key R) := by show _ = _; rw [← HSS.out, ← HR.out]; rfl
  rw [HR.out] at HC1
  rw [HSS.out]
  clear hO hK hz0 d1 d2 d3 d4 d5
  go_enter Tryd.func51, Tryd.ntmps51
  go_upto_region 1 with fail
  rw [← HW3.out]
  simp only [show w.heap.size + 1 + 1 = w.heap.size + 2 from rfl]
  go_wp2_with (first | (refine wpList_load_row rfl 26 (.tmp 5) rfl w.heap.size rfl 26 #[.int .i64 z] (0, 0) _ HD.out.1 Tryd.underlying26 rfl HS.out.2.2 ?_) | (refine wpList_load_row rfl 48 (.tmp 6) rfl (w.heap.size + 1) rfl 48 (tabC lv n root k1 k2) (0, 0) _ HD.out.2.1 Tryd.underlying48 rfl HS.out.1 ?_) | (refine wpList_load_row rfl 30 (.tmp 9) rfl (w.heap.size + 2) rfl 30 o.cells (0, 0) _ HD.out.2.2 Tryd.underlying30 rfl HS.out.2.1 ?_))
  refine Calls.mono HC1.out ?_
  rintro e w5 ⟨rfl, hb5⟩
  have HB5 : Hid (Below (w.heap.size + 3) W3 w5 ∧ Below w.heap.size w w5) := ⟨by have h := hb5; rw [HB3.out.2] at h; exact h, HB3.out.1.trans (hb5.mono HB3.out.1.size)⟩
  have hox : w5.heap[w.heap.size + 2]? = some (.cells o.cells 30 (0, 0)) := (HB5.out.1.block _ (by omega)).trans HD.out.2.2
  have c0 : w5.cell? ⟨w.heap.size + 2, 0, none⟩ = some (.int .i64 o.at_) := by rw [cell_of_row _ _ _ _ _ _ hox]; rfl
  have hlt : w.heap.size + 2 < w5.heap.size := (Array.getElem?_eq_some_iff.1 hox).1
  have HLT : Hid _ := hlt
  clear hb5 HC1 hox hlt
  cases R with
  | none =>
    simp only [soleV, encE]
    have hs : S = false := HSU.out
    subst hs
    go_wp2
    go_ret
    exact ⟨rfl, HB5.out.2.alloc HB5.out.2.size _⟩
  | some x =>
    obtain ⟨k, v, d, q⟩ := x
    have hl := less_cmpS key k
    have c1 : (w5.alloc (.cells #[.string k, .string v, .bool d, .int .i64 q] 54)).cell? ⟨w.heap.size + 2, 0, none⟩ = some (.int .i64 o.at_) := cell_kept (bel_alloc w5 _) HLT.out c0
    have c2 : (w5.alloc (.cells #[.string k, .string v, .bool d, .int .i64 q] 54)).cell? ⟨w5.heap.size, 0, none⟩ = some (.string k) := by rw [cell_of_row _ _ _ _ _ _ (heap_alloc_new w5 _)]; rfl
    clear c0
    have HSX : Hid (∀ x y, decide (o.at_ = p) = x → decide (cmpS key k < 0) = y → S = (x && y)) := fun x y h1 h2 => by rw [HSU.out]; show (decide (o.at_ = p) && decide (cmpS key k < 0)) = _; rw [h1, h2]
    simp only [soleV, encE]
    by_cases h1 : o.at_ = p
    · have z1 : (o.at_ == p) = true := by simpa using h1
      cases hb : Op.bytesLess key.toList k.toList with
      | true =>
        rw [hb] at hl
        have hs : S = true := HSX.out _ _ (decide_eq_true h1) hl.symm
        subst hs
        clear h1 hl HSU HSX
        go_wp2
        go_ret
        exact ⟨rfl, HB5.out.2.alloc HB5.out.2.size _⟩
      | false =>
        rw [hb] at hl
        have hs : S = false := HSX.out _ _ (decide_eq_true h1) hl.symm
        subst hs
        clear h1 hl HSU HSX
        go_wp2
        go_ret
        exact ⟨rfl, HB5.out.2.alloc HB5.out.2.size _⟩
    · have z1 : (o.at_ == p) = false := by simpa using h1
      have hs : S = false := HSX.out _ _ (decide_eq_false h1) rfl
      subst hs
      clear h1 hl HSU HSX
      go_wp2
      go_ret
      exact ⟨rfl, HB5.out.2.alloc HB5.out.2.size _⟩
end Go.Proofs.YtecacjddggljgaaDoor
