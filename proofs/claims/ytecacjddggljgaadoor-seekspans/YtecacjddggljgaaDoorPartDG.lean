/-
  What seek.CheckSpan answers: a contract over this translation.
-/
import Derived.Test.YtecacjddggljgaaDoorPartDF
namespace Go.Proofs.YtecacjddggljgaaDoor
open Go.RowKit Go.Sort Go.Shelf
set_option linter.unusedSectionVars false
variable [Inhabited E] [DecidableEq E]
theorem soles_len {bs : List (List UInt8)} {es : List E} (h : soleAll bs = some es) : es.length = bs.length := by
  unfold soleAll at h
  split at h
  · rename_i ha
    cases h
    induction bs with
    | nil => rfl
    | cons b r ih =>
      rw [List.all_cons, Bool.and_eq_true] at ha
      cases hs : soleOf b with
      | none => rw [hs] at ha; cases ha.1
      | some x => rw [List.filterMap_cons_some hs, List.length_cons, List.length_cons, ih ha.2]
  · cases h
def spanA (base : Nat) (w : World) (v : Value) (er : Int) (R : Option (List E)) : Prop := er = (if R.isSome = true then 0 else 8) ∧ rowIs base w v R
theorem spanM_some (frm n : Int) (lo hi : ByteArray) (es : List E) : spanM frm n lo hi (some es) = if sortedB es && (!(decide (0 < frm) && decide (cmpS lo es[0]!.key ≤ 0)) && !(decide (frm + es.length < n) && belB es[es.length - 1]!.key hi)) then some (withB lo hi es) else none := rfl
set_option maxRecDepth 100000 in
set_option maxHeartbeats 8000000 in
theorem checkSpan_any (z lv n : Int) (root : List UInt8) (k1 k2 lo hi : ByteArray) (S : Spn) (w : World) (hr : root.length = 32) (hn : n ≤ 9223372036854775807) (hS : SpnV w S) (hln : S.ln ≤ 1000) (hK : Sm.WW w 1 Sm.ks) (hz0 : 1 < w.heap.size) (hz : -9223372036854775808 ≤ z ∧ z ≤ 9223372036854775807) :
    Calls Tryd.prog 26 #[.agg #[.int .i64 z], .agg (tabC lv n root k1 k2), .string lo, .string hi, .agg S.cells] w fun e w' => ∃ v' er, e = .returned (.tuple #[v', .int .i64 er]) ∧ spanA w.heap.size w' v' er (spanO z root n k1 k2 lo hi S) ∧ Below w.heap.size w w' := by
  obtain ⟨W3, HW3⟩ : ∃ W, Hid (W = ((w.alloc (.cells #[.int .i64 z] 26)).alloc (.cells (tabC lv n root k1 k2) 48)).alloc (.cells S.cells 39)) := ⟨_, rfl⟩
  obtain ⟨d1, d2, d3, d4, d5⟩ := frame3 w (.cells #[.int .i64 z] 26) (.cells (tabC lv n root k1 k2) 48) _ _ W3 HW3.out
  obtain ⟨t1, t2, -, -⟩ := tabC_at lv n hr k1 k2
  have HD : Hid (∀ V, Below (w.heap.size + 3) W3 V → V.heap[w.heap.size]? = some (.cells #[.int .i64 z] 26 (0, 0)) ∧ V.heap[w.heap.size + 1]? = some (.cells (tabC lv n root k1 k2) 48 (0, 0)) ∧ V.rangeAt (w.heap.size + 1) 2 (cellsOf root)) := fun V hV => by
    have g1 := (hV.block w.heap.size (by omega)).trans d1
    have g2 := (hV.block (w.heap.size + 1) (by omega)).trans d2
    exact ⟨g1, g2, fun j v hj => by rw [cell_of_row _ _ _ _ _ _ g2]; exact t2 j v hj⟩
  have HC : Hid (∀ V, Below (w.heap.size + 3) W3 V → V.cell? ⟨w.heap.size + 1, 1, none⟩ = some (.int .i64 n) ∧ V.cell? ⟨w.heap.size + 2, 0, none⟩ = some (.int .i64 S.frm) ∧ V.cell? ⟨w.heap.size + 2, 1, none⟩ = some (.slice S.lo S.ln S.lc) ∧ V.cell? ⟨w.heap.size + 2, 2, none⟩ = some (.slice S.po S.pn S.pc)) := fun V hV => by
    have g2 := (hV.block (w.heap.size + 1) (by omega)).trans d2
    have g3 := (hV.block (w.heap.size + 2) (by omega)).trans d3
    exact ⟨by rw [cell_of_row _ _ _ _ _ _ g2]; exact t1, by rw [cell_of_row _ _ _ _ _ _ g3]; rfl, by rw [cell_of_row _ _ _ _ _ _ g3]; rfl, by rw [cell_of_row _ _ _ _ _ _ g3]; rfl⟩
  have HB3 : Hid (Below w.heap.size w W3 ∧ W3.heap.size = w.heap.size + 3) := ⟨d4, d5⟩
  have HOV : Hid (∀ V, Calls Tryd.prog 20 #[.agg (tabC lv n root k1 k2), .string lo, .string hi] V fun e w' => e = .returned (.bool (ovB k1 k2 lo hi)) ∧ Below V.heap.size V w') := fun V => overlaps_any _ k1 k2 lo hi V (tabC_at lv n hr k1 k2).2.2.1 (tabC_at lv n hr k1 k2).2.2.2
  have HCR : Hid (∀ V, Below w.heap.size w V → Calls Tryd.prog 54 #[.agg #[.int .i64 z], .agg (cellsOf root).toArray, .int .i64 n, .int .i64 S.frm, .slice S.lo S.ln S.lc, .slice S.po S.pn S.pc] V fun e w' => e = .returned (.bool (Sm.crB z root n S.frm S.ls S.ds)) ∧ Below V.heap.size V w') := fun V hV => Sm.crange_any z root n S.frm S.lo S.ln S.lc S.ls S.po S.pn S.pc S.ds V hr hn hS.len hS.p1 (hS.keep hV).path (hS.keep hV).leaves hln (hK.below hV hz0) (Nat.lt_of_lt_of_le hz0 hV.size) hz
  have HSO : Hid (∀ V, Below w.heap.size w V → Calls Tryd.prog 55 #[.slice S.lo S.ln S.lc] V fun e w' => ∃ v', e = .returned (.tuple #[v', .bool (soleAll (Sm.bytesL S.ls)).isSome]) ∧ rowIs V.heap.size w' v' (soleAll (Sm.bytesL S.ls)) ∧ Below V.heap.size V w') := fun V hV => soles_any S.lo S.ln S.lc S.ls V (hS.keep hV).leaves hS.caps hln
  have HSL : Hid (∀ es, soleAll (Sm.bytesL S.ls) = some es → es.length = S.ln ∧ S.ln ≤ 1000) := fun es h => ⟨by rw [soles_len h, Sm.bytesL_len]; exact hS.leaves.1, hln⟩
  have HCF : Hid (Sm.crB z root n S.frm S.ls S.ds = true → 0 < S.ln ∧ 0 ≤ S.frm ∧ S.frm + (S.ln : Int) ≤ n ∧ n ≤ 9223372036854775807) := fun h => by
    unfold Sm.crB at h
    simp only [Bool.and_eq_true, decide_eq_true_eq] at h
    have := hS.leaves.1
    omega
  have HS : Hid ((Tryd.prog.info? 48).map (·.size) = some (tabC lv n root k1 k2).size ∧ (Tryd.prog.info? 46).map (·.size) = some (cellsOf root).length ∧ (Tryd.prog.info? 26).map (·.size) = some 1) := ⟨by rw [size48, tabC_size lv n hr], by rw [Sm.size24, cellsOf_length, hr], size26⟩
  obtain ⟨ov, HOO⟩ : ∃ b, Hid (ovB k1 k2 lo hi = b) := ⟨_, rfl⟩
  obtain ⟨cr, HCC⟩ : ∃ b, Hid (Sm.crB z root n S.frm S.ls S.ds = b) := ⟨_, rfl⟩
  obtain ⟨sa, HSA⟩ : ∃ b, Hid (soleAll (Sm.bytesL S.ls) = b) := ⟨_, rfl⟩
  obtain ⟨R, HR⟩ : ∃ b, Hid (spanO z root n k1 k2 lo hi S = b) := ⟨_, rfl⟩
  have HRR : Hid (R = if ov && cr then spanM S.frm n lo hi sa else none) := by show _ = _; rw [← HR.out, ← HOO.out, ← HCC.out, ← HSA.out]; rfl
  rw [HR.out]
  rw [HOO.out] at HOV
  rw [HCC.out] at HCR HCF
  rw [HSA.out] at HSO HSL
  clear hS hK hz0 d1 d2 d3 d4 d5 t1 t2 HR HOO HCC HSA
  obtain ⟨frm, slo, sln, slc, sls, spo, spn, spc, sds⟩ := S
  simp only [Spn.cells] at *
  go_enter Tryd.func26, Tryd.ntmps26
  go_upto_region 1 with fail
  rw [← HW3.out]
  simp only [show w.heap.size + 1 + 1 = w.heap.size + 2 from rfl]
  have HD3 : Hid _ := HD.out W3 (Below.refl _ _)
  go_wp2_with (refine wpList_load_row rfl 48 (.tmp 6) rfl (w.heap.size + 1) rfl 48 (tabC lv n root k1 k2) (0, 0) _ HD3.out.2.1 Tryd.underlying48 rfl HS.out.1 ?_)
  refine (HOV.out W3).mono ?_
  rintro e w4 ⟨rfl, hb4⟩
  have HB4 : Hid (Below (w.heap.size + 3) W3 w4 ∧ Below w.heap.size w w4) := ⟨by have h := hb4; rw [HB3.out.2] at h; exact h, HB3.out.1.trans (hb4.mono HB3.out.1.size)⟩
  have HGE : Hid (w.heap.size + 3 ≤ w4.heap.size) := by show _ ≤ _; have := hb4.size; have := HB3.out.2; omega
  clear hb4 HD3 HOV
  cases ov with
  | false =>
    have hR : R = none := HRR.out
    subst hR
    go_wp2
    go_ret2
    exact ⟨_, 8, rfl, ⟨rfl, rfl⟩, HB4.out.2⟩
  | true =>
    obtain ⟨h1, -, h3⟩ := HD.out w4 HB4.out.1
    obtain ⟨c1, c2, c3, c4⟩ := HC.out w4 HB4.out.1
    have HL : Hid _ := And.intro h1 h3
    clear h1 h3
    go_wp2_with (first | (refine Sm.wpList_load_rowG (by rfl) 26 (.tmp 5) rfl w.heap.size rfl 26 #[.int .i64 z] (0, 0) _ HL.out.1 Tryd.underlying26 rfl HS.out.2.2 ?_) | (refine load_midG (by rfl) 46 (.tmp 22) rfl (w.heap.size + 1) 2 rfl (cellsOf root) _ HL.out.2 Tryd.underlying46 rfl HS.out.2.1 ?_))
    refine (HCR.out w4 HB4.out.2).mono ?_
    rintro e w5 ⟨rfl, hb5⟩
    have HB5 : Hid (Below (w.heap.size + 3) W3 w5 ∧ Below w.heap.size w w5 ∧ w.heap.size + 3 ≤ w5.heap.size) := ⟨HB4.out.1.trans (hb5.mono HGE.out), HB4.out.2.trans (hb5.mono HB4.out.2.size), by have := hb5.size; have := HGE.out; omega⟩
    clear hb5 c1 c2 c3 c4 HL HCR
    cases cr with
    | false =>
      have hR : R = none := HRR.out
      subst hR
      go_wp2
      go_ret2
      exact ⟨_, 8, rfl, ⟨rfl, rfl⟩, HB5.out.2.1⟩
    | true =>
      obtain ⟨c1, c2, c3, c4⟩ := HC.out w5 HB5.out.1
      have HF : Hid _ := HCF.out rfl
      have HM : Hid (R = spanM frm n lo hi sa) := HRR.out
      clear HCF HRR
      go_wp2_with fail
      refine (HSO.out w5 HB5.out.2.1).mono ?_
      rintro e w6 ⟨v6, rfl, hrow, hb6⟩
      have HB6 : Hid (Below (w.heap.size + 3) W3 w6 ∧ Below w.heap.size w w6 ∧ w.heap.size + 3 ≤ w6.heap.size) := ⟨HB5.out.1.trans (hb6.mono HB5.out.2.2), HB5.out.2.1.trans (hb6.mono HB5.out.2.1.size), by have := hb6.size; have := HB5.out.2.2; omega⟩
      have HRO : Hid _ := hrow
      clear hrow hb6 c1 c2 c3 c4 HSO
      cases sa with
      | none =>
        have hR : R = none := HM.out
        subst hR
        simp only [Option.isSome_none]
        go_wp2
        go_ret2
        exact ⟨_, 8, rfl, ⟨rfl, rfl⟩, HB6.out.2.1⟩
      | some es =>
        simp only [Option.isSome_some]
        obtain ⟨hel, hl1⟩ := HSL.out es rfl
        obtain ⟨ao6, c6, hv6, hE6⟩ := own_entsV (show w6.ownsRow w5.heap.size 54 4 v6 es.length (flatE es) from HRO.out) rfl
        rw [hel] at hv6 hE6
        subst hv6
        obtain ⟨m, hm⟩ : ∃ m, sln = m + 1 := ⟨sln - 1, by have := HF.out.1; omega⟩
        subst hm
        obtain ⟨b, off, hb6, hEn⟩ := hE6.2 (by omega)
        subst hb6
        have HST : Hid _ := sorted_any (some ⟨b, off, none⟩) (m + 1) c6 es w6 hE6 (by omega)
        have HWI : Hid (∀ V, Below w6.heap.size w6 V → Calls Tryd.prog 57 #[.slice (some ⟨b, off, none⟩) (m + 1) c6, .string lo, .string hi] V fun e w' => ∃ v', e = .returned v' ∧ w'.ownsRow V.heap.size 54 4 v' (withB lo hi es).length (flatE (withB lo hi es)) ∧ Below V.heap.size V w') := fun V hV => within_any _ _ _ _ lo hi V (hE6.below hV (Nat.le_refl _)) hl1
        obtain ⟨k0, HK0⟩ : ∃ k, Hid (es[0]!.key = k) := ⟨_, rfl⟩
        obtain ⟨kl, HKL⟩ : ∃ k, Hid (es[es.length - 1]!.key = k) := ⟨_, rfl⟩
        have HCE : Hid (∀ V, Below w6.heap.size w6 V → V.cell? ⟨b, off, none⟩ = some (.string k0) ∧ V.cell? ⟨b, off + m * 4, none⟩ = some (.string kl)) := fun V hV => by
          have hV6 := hEn.below hV (Nat.le_refl _)
          refine ⟨?_, ?_⟩
          · have h3 := (ents_four hV6 0 (by omega) (k := es[0]!.key) (v := es[0]!.value) (d := es[0]!.del) (q := es[0]!.seq) rfl).1
            rw [HK0.out] at h3
            simpa using h3
          · have h3 := (ents_four hV6 m (by omega) (k := es[m]!.key) (v := es[m]!.value) (d := es[m]!.del) (q := es[m]!.seq) rfl).1
            have e : es[m]!.key = kl := by rw [← HKL.out, hel]; rfl
            rw [e] at h3
            exact h3
        obtain ⟨sb, HSB⟩ : ∃ b, Hid (sortedB es = b) := ⟨_, rfl⟩
        have HX : Hid (∀ x y, (decide (0 < frm) && decide (cmpS lo k0 ≤ 0)) = x → (decide (frm + ((m : Int) + 1) < n) && belB kl hi) = y → R = if sb && (!x && !y) then some (withB lo hi es) else none) := fun x y h1 h2 => by
          rw [HM.out]
          rw [spanM_some, HK0.out, HKL.out, HSB.out, hel, h1, show ((m + 1 : Nat) : Int) = (m : Int) + 1 from by omega, h2]
        obtain ⟨bb, HBB⟩ : ∃ b, Hid (belB kl hi = b) := ⟨_, rfl⟩
        have HBE : Hid (∀ V, Calls Tryd.prog 48 #[.string kl, .string hi] V fun e w' => e = .returned (.bool bb) ∧ Below V.heap.size V w') := fun V => by rw [← HBB.out]; exact below_any kl hi V
        rw [HBB.out] at HX
        have HST2 := HST.out
        rw [HSB.out] at HST2
        have HST3 : Hid _ := HST2
        clear HST HST2 HSB HBB HKL HK0 hEn hE6 HM HRO HSL
        go_wp2_with fail
        refine Calls.mono HST3.out ?_
        rintro e w7 ⟨rfl, hb7⟩
        have HB7 : Hid (Below (w.heap.size + 3) W3 w7 ∧ Below w.heap.size w w7 ∧ w.heap.size + 3 ≤ w7.heap.size ∧ Below w6.heap.size w6 w7) := ⟨HB6.out.1.trans (hb7.mono HB6.out.2.2), HB6.out.2.1.trans (hb7.mono HB6.out.2.1.size), by have := hb7.size; have := HB6.out.2.2; omega, hb7⟩
        clear hb7 HST3
        cases sb with
        | false =>
          have hR : R = none := HX.out _ _ rfl rfl
          subst hR
          go_wp2
          go_ret2
          exact ⟨_, 8, rfl, ⟨rfl, rfl⟩, HB7.out.2.1⟩
        | true =>
          obtain ⟨c1, c2, -, -⟩ := HC.out w7 HB7.out.1
          obtain ⟨c3, c4⟩ := HCE.out w7 HB7.out.2.2.2
          have kadd : wrap64 (frm + ((m : Int) + 1)) = frm + ((m : Int) + 1) := by have := HF.out; unfold wrap64; omega
          have kadd2 : IntKind.i64.wrap (frm + ((m : Int) + 1)) = frm + ((m : Int) + 1) := by have := HF.out; rw [IntKind.wrap_i64]; omega
          have hm1 : wrap64 ((m : Int) + 1 - 1) = (m : Int) := by unfold wrap64; omega
          have hm2 : IntKind.i64.wrap ((m : Int) + 1 - 1) = (m : Int) := by rw [IntKind.wrap_i64]; omega
          have hm7 : IntKind.i64.wrap (m : Int) = (m : Int) := by rw [IntKind.wrap_i64]; omega
          have hm3 : (m : Int) < (m : Int) + 1 := by omega
          have hm4 : (0 : Int) < (m : Int) + 1 := by omega
          have hm5 : 0 < m + 1 := by omega
          have hm6 : m < m + 1 := by omega
          have hlk := less_cmpS k0 lo
          by_cases hmo : frm + ((m : Int) + 1) < n
          · have HMO : Hid _ := decide_eq_true hmo
            by_cases hf0 : 0 < frm
            · have HF0 : Hid _ := decide_eq_true hf0
              cases hg : Op.bytesLess k0.toList lo.toList with
              | false =>
                have hlg : decide (cmpS lo k0 ≤ 0) = true := by
                  rw [hg] at hlk
                  have h1 := of_decide_eq_false hlk.symm
                  exact decide_eq_true (by have := cmpS_ord.anti k0 lo; omega)
                have HLG : Hid _ := hlg
                clear hlk hlg
                have hR : R = none := HX.out true _ (by rw [HF0.out, HLG.out]; rfl) rfl
                subst hR
                go_wp2
                go_ret2
                exact ⟨_, 8, rfl, ⟨rfl, rfl⟩, HB7.out.2.1⟩
              | true =>
                have hlg : decide (cmpS lo k0 ≤ 0) = false := by
                  rw [hg] at hlk
                  have h1 := of_decide_eq_true hlk.symm
                  exact decide_eq_false (fun h => by have := (cmpS_ord.anti k0 lo).1 h1; omega)
                have HLG : Hid _ := hlg
                clear hlk hlg
                go_wp2_with fail
                refine Calls.mono (HBE.out w7) ?_
                rintro e w8 ⟨rfl, hb8⟩
                have HB8 : Hid (Below w.heap.size w w8 ∧ Below w6.heap.size w6 w8) := ⟨HB7.out.2.1.trans (hb8.mono HB7.out.2.1.size), HB7.out.2.2.2.trans (hb8.mono HB7.out.2.2.2.size)⟩
                clear hb8 c1 c2 c3 c4
                cases bb with
                | true =>
                  have hR : R = none := HX.out false true (by rw [HLG.out, Bool.and_false]) (by rw [HMO.out]; rfl)
                  subst hR
                  go_wp2
                  go_ret2
                  exact ⟨_, 8, rfl, ⟨rfl, rfl⟩, HB8.out.1⟩
                | false =>
                  go_wp2_with fail
                  refine Calls.mono (HWI.out w8 HB8.out.2) ?_
                  rintro e w9 ⟨v9, rfl, hown9, hb9⟩
                  have HB9 : Hid (Below w.heap.size w w9 ∧ w.heap.size ≤ w8.heap.size) := ⟨HB8.out.1.trans (hb9.mono HB8.out.1.size), HB8.out.1.size⟩
                  have HR9 : Hid (R = some (withB lo hi es)) := HX.out false false (by rw [HLG.out, Bool.and_false]) (by rw [Bool.and_false])
                  have HO9 : Hid _ := hown9
                  clear hown9 hb9
                  go_wp2
                  go_ret2
                  refine ⟨v9, 0, rfl, ⟨?_, ?_⟩, HB9.out.1⟩
                  · rw [HR9.out]; rfl
                  · rw [HR9.out]; exact ownsRow_mono HO9.out HB9.out.2
            · clear hlk
              have HF0 : Hid _ := decide_eq_false hf0
              go_wp2_with fail
              refine Calls.mono (HBE.out w7) ?_
              rintro e w8 ⟨rfl, hb8⟩
              have HB8 : Hid (Below w.heap.size w w8 ∧ Below w6.heap.size w6 w8) := ⟨HB7.out.2.1.trans (hb8.mono HB7.out.2.1.size), HB7.out.2.2.2.trans (hb8.mono HB7.out.2.2.2.size)⟩
              clear hb8 c1 c2 c3 c4
              cases bb with
              | true =>
                have hR : R = none := HX.out false true (by rw [HF0.out, Bool.false_and]) (by rw [HMO.out]; rfl)
                subst hR
                go_wp2
                go_ret2
                exact ⟨_, 8, rfl, ⟨rfl, rfl⟩, HB8.out.1⟩
              | false =>
                go_wp2_with fail
                refine Calls.mono (HWI.out w8 HB8.out.2) ?_
                rintro e w9 ⟨v9, rfl, hown9, hb9⟩
                have HB9 : Hid (Below w.heap.size w w9 ∧ w.heap.size ≤ w8.heap.size) := ⟨HB8.out.1.trans (hb9.mono HB8.out.1.size), HB8.out.1.size⟩
                have HR9 : Hid (R = some (withB lo hi es)) := HX.out false false (by rw [HF0.out, Bool.false_and]) (by rw [Bool.and_false])
                have HO9 : Hid _ := hown9
                clear hown9 hb9
                go_wp2
                go_ret2
                refine ⟨v9, 0, rfl, ⟨?_, ?_⟩, HB9.out.1⟩
                · rw [HR9.out]; rfl
                · rw [HR9.out]; exact ownsRow_mono HO9.out HB9.out.2
          · have HMO : Hid _ := decide_eq_false hmo
            by_cases hf0 : 0 < frm
            · have HF0 : Hid _ := decide_eq_true hf0
              cases hg : Op.bytesLess k0.toList lo.toList with
              | false =>
                have hlg : decide (cmpS lo k0 ≤ 0) = true := by
                  rw [hg] at hlk
                  have h1 := of_decide_eq_false hlk.symm
                  exact decide_eq_true (by have := cmpS_ord.anti k0 lo; omega)
                have HLG : Hid _ := hlg
                clear hlk hlg
                have hR : R = none := HX.out true _ (by rw [HF0.out, HLG.out]; rfl) rfl
                subst hR
                go_wp2
                go_ret2
                exact ⟨_, 8, rfl, ⟨rfl, rfl⟩, HB7.out.2.1⟩
              | true =>
                have hlg : decide (cmpS lo k0 ≤ 0) = false := by
                  rw [hg] at hlk
                  have h1 := of_decide_eq_true hlk.symm
                  exact decide_eq_false (fun h => by have := (cmpS_ord.anti k0 lo).1 h1; omega)
                have HLG : Hid _ := hlg
                clear hlk hlg
                go_wp2_with fail
                refine Calls.mono (HWI.out w7 HB7.out.2.2.2) ?_
                rintro e w9 ⟨v9, rfl, hown9, hb9⟩
                have HB9 : Hid (Below w.heap.size w w9 ∧ w.heap.size ≤ w7.heap.size) := ⟨HB7.out.2.1.trans (hb9.mono HB7.out.2.1.size), HB7.out.2.1.size⟩
                have HR9 : Hid (R = some (withB lo hi es)) := HX.out false false (by rw [HLG.out, Bool.and_false]) (by rw [HMO.out, Bool.false_and])
                have HO9 : Hid _ := hown9
                clear hown9 hb9
                go_wp2
                go_ret2
                refine ⟨v9, 0, rfl, ⟨?_, ?_⟩, HB9.out.1⟩
                · rw [HR9.out]; rfl
                · rw [HR9.out]; exact ownsRow_mono HO9.out HB9.out.2
            · clear hlk
              have HF0 : Hid _ := decide_eq_false hf0
              go_wp2_with fail
              refine Calls.mono (HWI.out w7 HB7.out.2.2.2) ?_
              rintro e w9 ⟨v9, rfl, hown9, hb9⟩
              have HB9 : Hid (Below w.heap.size w w9 ∧ w.heap.size ≤ w7.heap.size) := ⟨HB7.out.2.1.trans (hb9.mono HB7.out.2.1.size), HB7.out.2.1.size⟩
              have HR9 : Hid (R = some (withB lo hi es)) := HX.out false false (by rw [HF0.out, Bool.false_and]) (by rw [HMO.out, Bool.false_and])
              have HO9 : Hid _ := hown9
              clear hown9 hb9
              go_wp2
              go_ret2
              refine ⟨v9, 0, rfl, ⟨?_, ?_⟩, HB9.out.1⟩
              · rw [HR9.out]; rfl
              · rw [HR9.out]; exact ownsRow_mono HO9.out HB9.out.2
end Go.Proofs.YtecacjddggljgaaDoor
