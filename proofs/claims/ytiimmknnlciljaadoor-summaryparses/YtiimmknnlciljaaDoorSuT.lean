/-
  What a summary's reader takes for a table, and for all of them: contracts over this translation.
-/
import Derived.Test.YtiimmknnlciljaaDoorSuQ
namespace Go.Proofs.YtiimmknnlciljaaDoor
open Go.RowKit Go.Sort Go.Shelf
set_option linter.unusedSectionVars false
variable [Inhabited E] [DecidableEq E]
def lvOf (v : Nat) : Int := wrap64 (v : Int)
/-- What table takes. -/
def rdTb (R : List UInt8) (bad : Bool) : Tb × List UInt8 × Bool :=
  let a := rdN R bad
  let b := rdN a.2.1 a.2.2
  let d := rdD b.2.1 b.2.2
  let f := rdX d.2.1 d.2.2
  let l := rdX f.2.1 f.2.2
  (⟨lvOf a.1, lvOf b.1, d.1, ⟨f.1.toArray⟩, ⟨l.1.toArray⟩, rdD_len _ _⟩, l.2.1, l.2.2)
def Tb.lev (x : Tb) (v : Int) : Tb := ⟨v, x.ct, x.root, x.first, x.last, x.hr⟩
def Tb.cnt (x : Tb) (v : Int) : Tb := ⟨x.lv, v, x.root, x.first, x.last, x.hr⟩
def Tb.rt (x : Tb) (d : List UInt8) (h : d.length = 32) : Tb := ⟨x.lv, x.ct, d, x.first, x.last, h⟩
theorem encT_lev (x : Tb) (v : Int) : (encT x).set 0 (.int .i64 v) = encT (x.lev v) := rfl
theorem encT_cnt (x : Tb) (v : Int) : (encT x).set 1 (.int .i64 v) = encT (x.cnt v) := rfl
theorem encT_rt (x : Tb) (d : List UInt8) (h : d.length = 32) : splice (encT x) 2 (cellsOf d) = encT (x.rt d h) := by
  unfold splice encT Tb.rt
  rw [cellsOf_length, h]
  show _ :: _ :: (cellsOf d ++ List.drop 32 (cellsOf x.root ++ _)) = _
  rw [List.drop_append_of_le_length (by rw [cellsOf_length, x.hr]; omega), List.drop_eq_nil_of_le (by rw [cellsOf_length, x.hr]; omega), List.nil_append]
/-- What stands while a table is read: its block, the reader, and the answer's block. -/
structure TRd (w W : World) (g B r xb : Nat) (x : Tb) (R : List UInt8) (bad : Bool) : Prop where
  box : Box W xb x
  rd : RdAt W g B R bad
  chg : Sm.Chg g w W
  res : Box W r zT
  sep : B ≤ xb ∧ g ≠ xb ∧ w.heap.size ≤ xb ∧ r ≠ xb ∧ r ≠ g ∧ w.heap.size ≤ r ∧ B ≤ r
theorem TRd.called {w W W' : World} {g B r xb : Nat} {x : Tb} {R R' : List UInt8} {bad bad' : Bool} (h : TRd w W g B r xb x R bad) (hr : RdAt W' g B R' bad') (hc : Sm.Chg g W W') : TRd w W' g B r xb x R' bad' :=
  ⟨(hc.block xb h.box.lt (fun e => h.sep.2.1 e.symm)).trans h.box, hr, h.chg.trans hc, (hc.block r h.res.lt h.sep.2.2.2.2.1).trans h.res, h.sep⟩
theorem TRd.row {w W : World} {g B r xb : Nat} {x : Tb} {R : List UInt8} {bad : Bool} (h : TRd w W g B r xb x R bad) (y : Tb) : TRd w (W.setRow xb (encT y).toArray) g B r xb y R bad :=
  have hc := (Sm.Chg.refl xb W).row (encT y).toArray
  ⟨box_row y h.box, h.rd.far hc h.sep.2.1 h.sep.1, chg_new h.chg hc h.sep.2.2.1, (hc.block r h.res.lt h.sep.2.2.2.1).trans h.res, h.sep⟩
theorem TRd.set {w W : World} {g B r xb i : Nat} {x y : Tb} {R : List UInt8} {bad : Bool} {v : Value} (h : TRd w W g B r xb x R bad) (hv : (encT x).set i v = encT y) : TRd w (W.setCell ⟨xb, i, none⟩ v) g B r xb y R bad := by
  rw [setCell_eq_setRow W xb i _ 51 (0, 0) v h.box, List.setIfInBounds_toArray, hv]
  exact h.row y
theorem TRd.sets {w W : World} {g B r xb : Nat} {x : Tb} {R : List UInt8} {bad : Bool} (h : TRd w W g B r xb x R bad) (d : List UInt8) (hd : d.length = 32) : TRd w (W.setCells xb 2 (cellsOf d)) g B r xb (x.rt d hd) R bad := by
  rw [Sm.setCells_row xb 51 (cellsOf d) 2 (encT x) W h.box (by rw [cellsOf_length, hd, encT_len]; omega), encT_rt x d hd]
  exact h.row _
theorem results_tab1 {fn : Func} {p : Tmp} (h : fn.results = #[.cell p 51]) (tmps : Array Value) (w : World) (g : Nat) (t : TypeId) (cs : Array Value) (fr : Nat × Nat)
    (hp : tmps.getD p undef = .pointer (some ⟨g, 0, none⟩)) (hg : w.heap[g]? = some (.cells cs t fr)) (hi : (Tryd.prog.info? 51).map (·.size) = some cs.size) :
    (results fn tmps).run Tryd.prog w = .ok (.agg cs) w := by
  have hp' : tmps[p]?.getD undef = .pointer (some ⟨g, 0, none⟩) := by simpa using hp
  simp [results, h, hp', asAddr, run_loadVar_row w g t 51 cs fr _ hg Tryd.underlying51 rfl hi]
set_option maxRecDepth 100000 in
set_option maxHeartbeats 8000000 in
theorem table_any (g B : Nat) (R : List UInt8) (bad : Bool) (w : World) (h : RdAt w g B R bad) (hBw : B ≤ w.heap.size) :
    Calls Tryd.prog 58 #[.pointer (some ⟨g, 0, none⟩)] w fun e w' => e = .returned (.agg (encT (rdTb R bad).1).toArray) ∧ RdAt w' g B (rdTb R bad).2.1 (rdTb R bad).2.2 ∧ Sm.Chg g w w' := by
  have hgl := h.lt
  have HRD : Hid (RdAt w g B R bad) := h
  have HG0 : Hid (g < w.heap.size ∧ B ≤ w.heap.size) := ⟨hgl, hBw⟩
  obtain ⟨Y, HY⟩ : ∃ Y, Hid ((rdTb R bad).1 = Y) := ⟨_, rfl⟩
  obtain ⟨RY, HRY⟩ : ∃ Y, Hid ((rdTb R bad).2.1 = Y) := ⟨_, rfl⟩
  obtain ⟨bY, HbY⟩ : ∃ Y, Hid ((rdTb R bad).2.2 = Y) := ⟨_, rfl⟩
  rw [HY.out, HRY.out, HbY.out]
  clear h hgl hBw
  go_enter Tryd.func58, Tryd.ntmps58
  go_upto_region 2 with fail
  refine Sm.wp_gen (fun W => W.heap[w.heap.size]? = some (.cells (encT zT).toArray 51 (0, 0)) ∧ W.heap[w.heap.size + 1]? = some (.cells (encT zT).toArray 51 (0, 0)) ∧ Below w.heap.size w W ∧ W.heap.size = w.heap.size + 2) (Sm.frame2 w (.cells (encT zT).toArray 51) (encT zT).toArray 51) ?_
  intro W0 hW0
  have H0 : Hid (TRd w W0 g B w.heap.size (w.heap.size + 1) zT R bad) := ⟨hW0.2.1, HRD.out.keep hW0.2.2.1, (Sm.Chg.refl g w).bel hW0.2.2.1 (Nat.le_refl _), hW0.1, by have := HG0.out; omega⟩
  clear hW0
  obtain ⟨⟨v1, R1, b1⟩, HA1⟩ : ∃ a, Hid (rdN R bad = a) := ⟨_, rfl⟩
  obtain ⟨⟨v2, R2, b2⟩, HA2⟩ : ∃ a, Hid (rdN R1 b1 = a) := ⟨_, rfl⟩
  obtain ⟨⟨D, R3, b3⟩, HA3⟩ : ∃ a, Hid (rdD R2 b2 = a) := ⟨_, rfl⟩
  obtain ⟨⟨F, R4, b4⟩, HA4⟩ : ∃ a, Hid (rdX R3 b3 = a) := ⟨_, rfl⟩
  obtain ⟨⟨L, R5, b5⟩, HA5⟩ : ∃ a, Hid (rdX R4 b4 = a) := ⟨_, rfl⟩
  have hDL : D.length = 32 := by have := rdD_len R2 b2; rw [HA3.out] at this; exact this
  have HDL : Hid (D.length = 32) := hDL
  have HYY : Hid (Y = ((((zT.lev (lvOf v1)).cnt (lvOf v2)).rt D hDL).fst ⟨F.toArray⟩).lst ⟨L.toArray⟩ ∧ RY = R5 ∧ bY = b5) := by
    refine ⟨?_, ?_, ?_⟩
    · rw [← HY.out]
      refine Tb.same ?_ ?_ ?_ ?_ ?_
      · show lvOf (rdN R bad).1 = _; rw [HA1.out]; rfl
      · show lvOf (rdN (rdN R bad).2.1 (rdN R bad).2.2).1 = _; rw [HA1.out, HA2.out]; rfl
      · show (rdD (rdN (rdN R bad).2.1 (rdN R bad).2.2).2.1 (rdN (rdN R bad).2.1 (rdN R bad).2.2).2.2).1 = _; rw [HA1.out, HA2.out, HA3.out]; rfl
      · show ByteArray.mk (rdX (rdD (rdN (rdN R bad).2.1 (rdN R bad).2.2).2.1 (rdN (rdN R bad).2.1 (rdN R bad).2.2).2.2).2.1 (rdD (rdN (rdN R bad).2.1 (rdN R bad).2.2).2.1 (rdN (rdN R bad).2.1 (rdN R bad).2.2).2.2).2.2).1.toArray = _; rw [HA1.out, HA2.out, HA3.out, HA4.out]; rfl
      · show ByteArray.mk (rdX (rdX (rdD (rdN (rdN R bad).2.1 (rdN R bad).2.2).2.1 (rdN (rdN R bad).2.1 (rdN R bad).2.2).2.2).2.1 (rdD (rdN (rdN R bad).2.1 (rdN R bad).2.2).2.1 (rdN (rdN R bad).2.1 (rdN R bad).2.2).2.2).2.2).2.1 (rdX (rdD (rdN (rdN R bad).2.1 (rdN R bad).2.2).2.1 (rdN (rdN R bad).2.1 (rdN R bad).2.2).2.2).2.1 (rdD (rdN (rdN R bad).2.1 (rdN R bad).2.2).2.1 (rdN (rdN R bad).2.1 (rdN R bad).2.2).2.2).2.2).2.2).1.toArray = _; rw [HA1.out, HA2.out, HA3.out, HA4.out, HA5.out]; rfl
    · rw [← HRY.out]
      show (rdX (rdX (rdD (rdN (rdN R bad).2.1 (rdN R bad).2.2).2.1 (rdN (rdN R bad).2.1 (rdN R bad).2.2).2.2).2.1 (rdD (rdN (rdN R bad).2.1 (rdN R bad).2.2).2.1 (rdN (rdN R bad).2.1 (rdN R bad).2.2).2.2).2.2).2.1 (rdX (rdD (rdN (rdN R bad).2.1 (rdN R bad).2.2).2.1 (rdN (rdN R bad).2.1 (rdN R bad).2.2).2.2).2.1 (rdD (rdN (rdN R bad).2.1 (rdN R bad).2.2).2.1 (rdN (rdN R bad).2.1 (rdN R bad).2.2).2.2).2.2).2.2).2.1 = _
      rw [HA1.out, HA2.out, HA3.out, HA4.out, HA5.out]
    · rw [← HbY.out]
      show (rdX (rdX (rdD (rdN (rdN R bad).2.1 (rdN R bad).2.2).2.1 (rdN (rdN R bad).2.1 (rdN R bad).2.2).2.2).2.1 (rdD (rdN (rdN R bad).2.1 (rdN R bad).2.2).2.1 (rdN (rdN R bad).2.1 (rdN R bad).2.2).2.2).2.2).2.1 (rdX (rdD (rdN (rdN R bad).2.1 (rdN R bad).2.2).2.1 (rdN (rdN R bad).2.1 (rdN R bad).2.2).2.2).2.1 (rdD (rdN (rdN R bad).2.1 (rdN R bad).2.2).2.1 (rdN (rdN R bad).2.1 (rdN R bad).2.2).2.2).2.2).2.2).2.2 = _
      rw [HA1.out, HA2.out, HA3.out, HA4.out, HA5.out]
  obtain ⟨hYY, hRY, hbY⟩ := HYY.out
  subst hRY
  subst hbY
  have HYQ : Hid (Y = ((((zT.lev (lvOf v1)).cnt (lvOf v2)).rt D hDL).fst ⟨F.toArray⟩).lst ⟨L.toArray⟩) := hYY
  clear HYY hYY HY HRY HbY HRD
  obtain ⟨xb, HXB⟩ : ∃ x, Hid (w.heap.size + 1 = x) := ⟨_, rfl⟩
  rw [HXB.out] at H0 ⊢
  have C1 : Hid _ := number_any g B R bad W0 H0.out.rd
  rw [HA1.out] at C1
  go_wp2_with fail
  refine Calls.mono C1.out ?_
  rintro e W1 ⟨rfl, hr1, hc1, -⟩
  have H1 : Hid (TRd w W1 g B w.heap.size xb zT R1 b1) := H0.out.called hr1 hc1
  have f0 := H1.out.box.frozen 0
  have c0 := H1.out.box.four.1
  clear hr1 hc1 C1 H0
  go_upto_region 3 with fail
  have H2 : Hid (TRd w (W1.setCell ⟨xb, 0, none⟩ (.int .i64 (wrap64 (v1 : Int)))) g B w.heap.size xb (zT.lev (lvOf v1)) R1 b1) := H1.out.set (encT_lev _ _)
  generalize W1.setCell ⟨xb, 0, none⟩ (.int .i64 (wrap64 (v1 : Int))) = W2 at *
  have C2 : Hid _ := number_any g B R1 b1 W2 H2.out.rd
  rw [HA2.out] at C2
  clear f0 c0 H1
  go_wp2_with fail
  refine Calls.mono C2.out ?_
  rintro e W3 ⟨rfl, hr3, hc3, -⟩
  have H3 : Hid (TRd w W3 g B w.heap.size xb (zT.lev (lvOf v1)) R2 b2) := H2.out.called hr3 hc3
  have f1 := H3.out.box.frozen 1
  have c1 := H3.out.box.four.2.1
  clear hr3 hc3 C2 H2
  go_upto_region 4 with fail
  have H4 : Hid (TRd w (W3.setCell ⟨xb, 1, none⟩ (.int .i64 (wrap64 (v2 : Int)))) g B w.heap.size xb ((zT.lev (lvOf v1)).cnt (lvOf v2)) R2 b2) := H3.out.set (encT_cnt _ _)
  generalize W3.setCell ⟨xb, 1, none⟩ (.int .i64 (wrap64 (v2 : Int))) = W4 at *
  have C3 : Hid _ := digestRd_any g B R2 b2 W4 H4.out.rd (by have := H4.out.chg.size; have := HG0.out.2; omega)
  rw [HA3.out] at C3
  clear f1 c1 H3
  go_wp2_with fail
  refine Calls.mono C3.out ?_
  rintro e W5 ⟨rfl, hr5, hc5⟩
  have H5 : Hid (TRd w W5 g B w.heap.size xb ((zT.lev (lvOf v1)).cnt (lvOf v2)) R3 b3) := H4.out.called hr5 hc5
  have HTH : Hid (W5.there xb 2 (cellsOf D).toArray.size) := fun j hj => ⟨by
    rw [cell_of_row _ _ _ _ _ _ H5.out.box]
    rw [List.size_toArray, cellsOf_length, HDL.out] at hj
    rw [Option.isSome_iff_exists]
    exact ⟨_, Array.getElem?_eq_getElem (by rw [List.size_toArray, encT_len]; omega)⟩, H5.out.box.frozen _⟩
  clear hr5 hc5 C3 H4
  go_wp2_with (refine wpList_store_mid rfl 32 (.tmp 14) (.tmp 13) rfl xb 2 (cellsOf D).toArray rfl rfl HTH.out (dig_szA HDL.out) (dig_all _) ?_)
  have H6 : Hid (TRd w (W5.setCells xb 2 (cellsOf D).toArray.toList) g B w.heap.size xb (((zT.lev (lvOf v1)).cnt (lvOf v2)).rt D hDL) R3 b3) := H5.out.sets D hDL
  generalize W5.setCells xb 2 (cellsOf D).toArray.toList = W6 at *
  obtain ⟨x6, HX6⟩ : ∃ x, Hid (((zT.lev (lvOf v1)).cnt (lvOf v2)).rt D hDL = x) := ⟨_, rfl⟩
  rw [HX6.out] at H6 HYQ
  have C4 : Hid _ := textRd_any g B R3 b3 W6 H6.out.rd
  rw [HA4.out] at C4
  clear HTH H5
  refine Calls.mono C4.out ?_
  rintro e W7 ⟨rfl, hr7, hc7, -⟩
  have H7 : Hid (TRd w W7 g B w.heap.size xb x6 R4 b4) := H6.out.called hr7 hc7
  have f34 := H7.out.box.frozen 34
  have c34 := H7.out.box.four.2.2.1
  clear hr7 hc7 C4 H6
  go_upto_region 6 with fail
  have H8 : Hid (TRd w (W7.setCell ⟨xb, 34, none⟩ (.string ⟨F.toArray⟩)) g B w.heap.size xb (x6.fst ⟨F.toArray⟩) R4 b4) := H7.out.set (encT_fst _ _)
  generalize W7.setCell ⟨xb, 34, none⟩ (.string ⟨F.toArray⟩) = W8 at *
  have C5 : Hid _ := textRd_any g B R4 b4 W8 H8.out.rd
  rw [HA5.out] at C5
  clear f34 c34 H7
  go_wp2_with fail
  refine Calls.mono C5.out ?_
  rintro e W9 ⟨rfl, hr9, hc9, -⟩
  have H9 : Hid (TRd w W9 g B w.heap.size xb (x6.fst ⟨F.toArray⟩) RY bY) := H8.out.called hr9 hc9
  have f35 := H9.out.box.frozen 35
  have c35 := H9.out.box.four.2.2.2
  clear hr9 hc9 C5 H8
  go_upto_region 7 with fail
  have H10 : Hid (TRd w (W9.setCell ⟨xb, 35, none⟩ (.string ⟨L.toArray⟩)) g B w.heap.size xb Y RY bY) := by
    rw [HYQ.out]; exact H9.out.set (encT_lst _ _)
  generalize W9.setCell ⟨xb, 35, none⟩ (.string ⟨L.toArray⟩) = W10 at *
  clear f35 c35 H9
  go_wp2_with (first | (refine wpList_load_row rfl 51 (.tmp 3) rfl xb rfl 51 (encT Y).toArray (0, 0) _ H10.out.box Tryd.underlying51 rfl (sizeTA _) ?_) | (refine wpList_store_box _ rfl (.tmp 2) (.tmp 21) rfl w.heap.size rfl Y rfl _ H10.out.res (by rw [List.size_toArray, encT_len]) ?_))
  intro W11 hb11 hc11
  go_wp2_with fail
  refine bodyPost_ret (results_tab1 rfl _ _ w.heap.size 51 _ (0, 0) rfl hb11 (sizeTA _)) rfl ?_
  exact ⟨rfl, H10.out.rd.far hc11 (by have := HG0.out.1; omega) (by have := HG0.out.2; omega), chg_new H10.out.chg hc11 (Nat.le_refl _)⟩
end Go.Proofs.YtiimmknnlciljaaDoor
