/-
  Who spans what is not so shows two texts: what the law SeekSpans answers, for any arguments.
-/
import Derived.Test.YtecacjddggljgaaDoorPartDI
import Derived.Test.YtecacjddggljgaaDoorPartDK
import Derived.Test.YtecacjddggljgaaDoorPartDG
import Derived.Test.YtecacjddggljgaaDoorPartDC
import Derived.Test.YtecacjddggljgaaDoorPartED
namespace Go.Proofs.YtecacjddggljgaaDoor
open Go.RowKit Go.Sort Go.Shelf
set_option linter.unusedSectionVars false
variable [Inhabited E] [DecidableEq E]
theorem spanO_len {z : Int} {root : List UInt8} {n : Int} {k1 k2 lo hi : ByteArray} {S : Spn} {got : List E} (h : spanO z root n k1 k2 lo hi S = some got) : got.length ≤ S.ls.length := by
  unfold spanO at h
  split at h
  · cases hs : soleAll (Sm.bytesL S.ls) with
    | none => rw [hs] at h; cases h
    | some es =>
      rw [hs, spanM_some] at h
      split at h
      · cases h
        have h1 := soles_len hs
        rw [Sm.bytesL_len] at h1
        rw [← h1]
        exact List.length_filter_le _ _
      · cases h
  · cases h
set_option maxRecDepth 100000 in
set_option maxHeartbeats 16000000 in
theorem spans12_walk (ao : Option Addr) (n c : Nat) (es0 : List E) (z : Int) (lo hi : ByteArray) (frm : Int) (slo : Option Addr) (sn sc : Nat) (b off0 : Nat) (ps : List Sm.PP) (spo : Option Addr) (spn spc : Nat) (ds : List (List UInt8)) (w : World) (hE : EntsV w ao n es0) (hsm : Small es0) (hnc : n ≤ c) (hc : c ≤ 9223372036854775807) (hz : -9223372036854775808 ≤ z ∧ z ≤ 9223372036854775807) (hP : Sm.Pieces w b off0 ps) (hn : ps.length = sn) (ha : 0 < sn → slo = some ⟨b, off0, none⟩) (hpl : ds.length = spn) (hp0 : spo = none → spc = 0) (hp1 : spn ≤ spc) (hpp : Sm.PathV w spo ds) (hK : Sm.WW w 1 Sm.ks) (hz0 : 1 < w.heap.size) :
    Calls Tryd.prog 7 #[.slice ao n c, .int .i64 z, .string lo, .string hi, .agg #[.int .i64 frm, .slice slo sn sc, .slice spo spn spc]] w fun e w' => e = .returned (.bool true) ∧ Below w.heap.size w w' := by
  obtain ⟨W0, HW0⟩ : ∃ W, Hid (w.alloc (.cells #[.int .i64 frm, .slice slo sn sc, .slice spo spn spc] 39) = W) := ⟨_, rfl⟩
  have HR0 : Hid (W0.heap[w.heap.size]? = some (.cells #[.int .i64 frm, .slice slo sn sc, .slice spo spn spc] 39 (0, 0)) ∧ Below w.heap.size w W0 ∧ W0.heap.size = w.heap.size + 1) := by
    show _ ∧ _
    rw [← HW0.out]; exact ⟨heap_alloc_new _ _, bel_alloc _ _, by simp⟩
  have HAB : Hid (∀ V, Below w.heap.size w V → Sm.Pieces V b off0 ps ∧ Sm.PathV V spo ds) := fun V hV => ⟨hP.below hV (Nat.le_refl _), hpp.below hV (Nat.le_refl _)⟩
  have HFX0 : Hid (ps.length = sn ∧ (0 < sn → slo = some ⟨b, off0, none⟩) ∧ ds.length = spn ∧ (spo = none → spc = 0) ∧ spn ≤ spc) := ⟨hn, ha, hpl, hp0, hp1⟩
  have hK0 := hK.below HR0.out.2.1 hz0
  have hz00 : 1 < W0.heap.size := by have := HR0.out.2.2; omega
  have hE0 := hE.below HR0.out.2.1 (Nat.le_refl _)
  clear hP hpp hE hn ha hpl hp0 hp1
  go_enter Tryd.func7, Tryd.ntmps7
  go_upto_region 1 with fail
  rw [HW0.out]
  go_wp2_with fail
  refine (shown12_any W0 hK0 hz00).mono ?_
  rintro e w1 ⟨rfl, hb1⟩
  go_wp2_with fail
  refine (fit4_any ao n c es0 w1 (hE0.below hb1 (Nat.le_refl _)) hsm (by omega)).mono ?_
  rintro e w2 ⟨v2, rfl, hown2, hb2⟩
  have hl2 := fitS_len es0
  have hf2 := fitS_fit es0
  obtain ⟨fs, HF⟩ : ∃ fs, Hid (fitS es0 = fs) := ⟨_, rfl⟩
  rw [HF.out] at hown2 hl2 hf2
  obtain ⟨ao2, c2, rfl, hE2, hlow2⟩ := own_entsL hown2 rfl
  have HB02 : Hid (Below W0.heap.size W0 w2) := hb1.trans (hb2.mono hb1.size)
  have HB2 : Hid (Below w.heap.size w w2) := HR0.out.2.1.trans (HB02.out.mono HR0.out.2.1.size)
  obtain ⟨l, HL⟩ : ∃ l, Hid (fs.length = l) := ⟨_, rfl⟩
  rw [HL.out] at hE2 hl2 hf2 hown2 ⊢
  have hsm2 : Small fs := by rw [← HF.out]; exact right_small (fitS_right es0)
  have HSZ2 : Hid (w1.heap.size ≤ w2.heap.size) := hb2.size
  have HSZ1 : Hid (w.heap.size < w1.heap.size) := by show _ < _; have := hb1.size; have := HR0.out.2.2; omega
  have HV : Hid (∀ V, Below w2.heap.size w2 V → EntsV V ao2 l fs ∧ (∀ x, ao2 = some x → x.block < V.heap.size) ∧ Sm.WW V 1 Sm.ks ∧ 1 < V.heap.size ∧ Below w.heap.size w V ∧ V.ownsRow w1.heap.size 54 4 (.slice ao2 l c2) l (flatE fs) ∧ V.heap[w.heap.size]? = some (.cells #[.int .i64 frm, .slice slo sn sc, .slice spo spn spc] 39 (0, 0))) := fun V hV =>
    ⟨hE2.below hV (Nat.le_refl _), fun x hx => Nat.lt_of_lt_of_le (hlow2 x hx) hV.size, (hK.below HB2.out hz0).below hV (Nat.lt_of_lt_of_le hz0 HB2.out.size), Nat.lt_of_lt_of_le hz0 (Nat.le_trans HB2.out.size hV.size), HB2.out.trans (hV.mono HB2.out.size), own_below hown2 hV (Nat.le_refl _), ((hV.block _ (by have := HB02.out.size; have := HR0.out.2.2; omega)).trans (HB02.out.block _ (by have := HR0.out.2.2; omega))).trans HR0.out.1⟩
  have HSM : Hid (Small fs ∧ l ≤ 64) := ⟨hsm2, hl2⟩
  have HZ0 : Hid _ := hz
  have HKW : Hid (Sm.WW w 1 Sm.ks ∧ 1 < w.heap.size) := ⟨hK, hz0⟩
  clear hb1 hb2 hE0 hsm hown2 hE2 hlow2 hK hz0 hnc hc hsm2 hl2 hz hK0 hz00
  go_upto_region 4 with (refine wpList_store_row rfl 26 (.tmp 12) (.tmp 27) rfl w2.heap.size #[.int .i64 z] rfl rfl 26 #[.int .i64 0] (heap_alloc_new _ _) size26 rfl (by simp [Value.oneCell']) ?_)
  generalize hW3 : World.setRow _ _ _ = W3
  have HR3 : Hid _ := stored hW3
  have HV3 : Hid _ := HV.out W3 HR3.out.2.1
  clear hW3
  go_wp2_with (refine wpList_load_row rfl 26 (.tmp 12) rfl w2.heap.size rfl 26 #[.int .i64 z] (0, 0) _ HR3.out.1 Tryd.underlying26 rfl size26 ?_)
  by_cases h0 : l = 0
  · have hff : fitB fs = false := by unfold fitB; rw [decide_eq_false (by have := HL.out; omega)]; rfl
    refine Calls.mono (describe_wrong z 1 ao2 l c2 fs W3 HV3.out.1 HSM.out.1 (by omega) (by rw [hff]; simp)) ?_
    rintro e w4 ⟨rfl, hb4⟩
    have HB4 : Hid (Below W3.heap.size W3 w4) := hb4
    clear hb4 hff h0 hf2
    go_upto_region 5 with (refine wpList_store_row rfl 48 (.tmp 13) (.tmp 32) rfl w4.heap.size zeroT rfl rfl 48 zeroT (heap_alloc_new _ _) (by rw [size48]; rfl) rfl (tabC_all _ _ _ _ _) ?_)
    generalize hW5 : World.setRow _ _ _ = W5
    have HR5 : Hid _ := stored hW5
    have HB52 : Hid (Below w2.heap.size w2 W5) := HR3.out.2.1.trans ((HB4.out.trans (HR5.out.2.1.mono HB4.out.size)).mono (by have := HR3.out.2.2; omega))
    have HBX : Hid _ := (HV.out W5 HB52.out).2.2.2.2.1
    clear hW5
    go_wp2
    go_ret
    exact ⟨rfl, HBX.out⟩
  · have hff : fitB fs = true := hf2 (by omega)
    have HFF : Hid _ := hff
    have HL0 : Hid (0 < l ∧ l ≤ 64) := ⟨by omega, HSM.out.2⟩
    obtain ⟨b0, off, hao, -⟩ := HV3.out.1.2 (by omega)
    subst hao
    have hds := describe_some z 1 b0 off l c2 fs W3 HV3.out.1 hff (by omega) HV3.out.2.2.1 HV3.out.2.2.2.1 HZ0.out (HV3.out.2.1 _ rfl)
    have hsd := fun (ls : List Sm.LV) (S : Spn) (got : List E) hb hS h => span_math (z := z) (es := fs) (ls := ls) (lo := lo) (hi := hi) (S := S) (got := got) hff hb hS h
    obtain ⟨d, HD⟩ : ∃ d, Hid (Sm.rootD z (fs.map bytesB) = d) := ⟨_, rfl⟩
    have HDL : Hid (d.length = 32) := by show _ = _; rw [← HD.out]; exact Sm.rootD_length _ _
    obtain ⟨k1, HK1⟩ : ∃ k, Hid (fs[0]!.key = k) := ⟨_, rfl⟩
    obtain ⟨k2, HK2⟩ : ∃ k, Hid (fs[fs.length - 1]!.key = k) := ⟨_, rfl⟩
    rw [HD.out, HK1.out, HK2.out, HL.out] at hds hsd
    obtain ⟨kk, HKK⟩ : ∃ k, Hid (tabC 1 (l : Int) d k1 k2 = k) := ⟨_, rfl⟩
    have HKS : Hid (kk.size = 36) := by show _ = _; rw [← HKK.out]; exact tabC_size _ _ HDL.out _ _
    have HKA : Hid (kk.all (·.oneCell') = true) := by show _ = _; rw [← HKK.out]; exact tabC_all _ _ _ _ _
    have HZ : Hid ((zeroT).size = 36) := tabC_size 0 0 (by simp) _ _
    rw [HKK.out] at hds
    have HSD : Hid _ := hsd
    refine Calls.mono hds ?_
    rintro e w4 ⟨rfl, hb4⟩
    have HB4 : Hid (Below W3.heap.size W3 w4) := hb4
    clear hb4 hff h0 hf2 hds hsd
    go_upto_region 5 with (refine wpList_store_row rfl 48 (.tmp 13) (.tmp 32) rfl w4.heap.size kk rfl rfl 48 zeroT (heap_alloc_new _ _) (by rw [size48, HKS.out]) (by rw [HKS.out, HZ.out]) HKA.out ?_)
    generalize hW5 : World.setRow _ _ _ = W5
    have HR5 : Hid _ := stored hW5
    have HB5 : Hid (Below W3.heap.size W3 W5) := HB4.out.trans (HR5.out.2.1.mono HB4.out.size)
    have HB52 : Hid (Below w2.heap.size w2 W5) := HR3.out.2.1.trans (HB5.out.mono (by have := HR3.out.2.2; omega))
    have HQ5 : Hid (W5.heap[w2.heap.size]? = some (.cells #[.int .i64 z] 26 (0, 0))) := (HB5.out.block _ (by have := HR3.out.2.2; omega)).trans HR3.out.1
    have HV5 : Hid _ := HV.out W5 HB52.out
    clear hW5
    have HPC : Hid _ := span_any frm slo sn sc b off0 ps spo spn spc ds W5 (HAB.out W5 HV5.out.2.2.2.2.1).1 HFX0.out.1 HFX0.out.2.1 HFX0.out.2.2.1 HFX0.out.2.2.2.1 HFX0.out.2.2.2.2 (HAB.out W5 HV5.out.2.2.2.2.1).2
    go_wp2_with (refine wpList_load_row rfl 39 (.tmp 9) rfl w.heap.size rfl 39 #[.int .i64 frm, .slice slo sn sc, .slice spo spn spc] (0, 0) _ HV5.out.2.2.2.2.2.2 Tryd.underlying39 rfl size39 ?_)
    refine Calls.mono HPC.out ?_
    rintro e w6 ⟨lo6, lc6, qo6, qc6, ls6, rfl, hO6, hcap6, hlen6, -, hD6, hb6⟩
    obtain ⟨ln, HLN6⟩ : ∃ x, Hid (ls6.length = x) := ⟨_, rfl⟩
    obtain ⟨qn, HQN6⟩ : ∃ x, Hid ((ds.take 40).length = x) := ⟨_, rfl⟩
    rw [HLN6.out] at hO6 hlen6
    rw [HQN6.out] at hD6
    rw [HLN6.out, HQN6.out]
    have HB6 : Hid (Below W5.heap.size W5 w6) := hb6
    have HB62 : Hid (Below w2.heap.size w2 w6) := HB52.out.trans (hb6.mono HB52.out.size)
    have HV6 : Hid _ := HV.out w6 HB62.out
    have HO6 : Hid _ := hO6
    have HD6 : Hid _ := hD6
    have HC6 : Hid (capsL ls6 ∧ ln ≤ 70) := ⟨hcap6, hlen6⟩
    clear hO6 hcap6 hlen6 hD6 hb6 HPC
    go_upto_region 8 with (refine wpList_store_row rfl 39 (.tmp 9) (.tmp 38) rfl w.heap.size #[.int .i64 frm, .slice lo6 ln lc6, .slice qo6 qn qc6] rfl rfl 39 #[.int .i64 frm, .slice slo sn sc, .slice spo spn spc] HV6.out.2.2.2.2.2.2 size39 rfl (one3 _ _ _ _ _ _ _) ?_)
    generalize hW9 : World.setRow _ _ _ = W9
    have HG2 : Hid (w.heap.size < w1.heap.size ∧ w1.heap.size ≤ w2.heap.size ∧ w2.heap.size < W5.heap.size ∧ w4.heap.size < w6.heap.size ∧ W9.heap.size = w6.heap.size ∧ w.heap.size < w2.heap.size ∧ w.heap.size < w4.heap.size ∧ w.heap.size < W5.heap.size ∧ w2.heap.size < w6.heap.size) := by
      have h1 := HSZ1.out
      have h2 := HSZ2.out
      have h3 := HR3.out.2.2
      have h4 := HB4.out.size
      have h5 := HR5.out.2.2
      have h6 := HB6.out.size
      refine ⟨by omega, by omega, by omega, by omega, by rw [← hW9]; simp, by omega, by omega, by omega, by omega⟩
    have HB9 : Hid (Below w.heap.size w W9) := by show Below _ _ _; rw [← hW9]; exact below_setRow HV6.out.2.2.2.2.1 (Nat.le_refl _) _
    have HR9 : Hid (W9.heap[w.heap.size]? = some (.cells #[.int .i64 frm, .slice lo6 ln lc6, .slice qo6 qn qc6] 39 (0, 0))) := by show _ = _; rw [← hW9]; exact setRow_heap _ _ _ _ _ _ HV6.out.2.2.2.2.2.2
    have HFX : Hid (∀ k, k ≠ w.heap.size → W9.heap[k]? = w6.heap[k]?) := fun k hk => by rw [← hW9]; exact setRow_other w6 _ k _ hk
    have HOW9 : Hid (W9.ownsRow w1.heap.size 54 4 (.slice (some ⟨b0, off, none⟩) l c2) l (flatE fs)) := by show World.ownsRow _ _ _ _ _ _ _; rw [← hW9]; exact own_rowlow HV6.out.2.2.2.2.2.1 HSZ1.out
    have HK9 : Hid (W9.heap[w4.heap.size]? = some (.cells kk 48 (0, 0))) := (HFX.out _ (by have := HG2.out; omega)).trans ((HB6.out.block _ (by have := HR5.out.2.2; omega)).trans HR5.out.1)
    have HQ9 : Hid (W9.heap[w2.heap.size]? = some (.cells #[.int .i64 z] 26 (0, 0))) := (HFX.out _ (by have := HG2.out; omega)).trans ((HB6.out.block _ (by have := HG2.out; omega)).trans HQ5.out)
    have HS9 : Hid (SpnV W9 ⟨frm, lo6, ln, lc6, ls6, qo6, qn, qc6, ds.take 40⟩) := by
      obtain ⟨ao9, c9, hv9, hl9⟩ := (ownL_type HO6.out HV6.out.2.2.2.2.2.2 HFX.out).leaves
      rw [HLN6.out] at hv9 hl9
      cases hv9
      obtain ⟨po9, pc9, hv10, hp1, hp2, hp3, -⟩ := dgo_path (dgo_type HD6.out HV6.out.2.2.2.2.2.2 HFX.out)
      rw [HQN6.out] at hv10 hp1
      cases hv10
      exact ⟨hl9, HC6.out.1, HQN6.out, hp1, hp2, hp3⟩
    obtain ⟨aoE, cE, hvE, hEE, hlowE⟩ := own_entsL HOW9.out HL.out
    cases hvE
    have HV9 : Hid (∀ V, Below W9.heap.size W9 V → EntsV V (some ⟨b0, off, none⟩) l fs ∧ Sm.WW V 1 Sm.ks ∧ 1 < V.heap.size ∧ V.heap[w2.heap.size]? = some (.cells #[.int .i64 z] 26 (0, 0)) ∧ V.heap[w4.heap.size]? = some (.cells kk 48 (0, 0)) ∧ V.heap[w.heap.size]? = some (.cells #[.int .i64 frm, .slice lo6 ln lc6, .slice qo6 qn qc6] 39 (0, 0)) ∧ SpnV V ⟨frm, lo6, ln, lc6, ls6, qo6, qn, qc6, ds.take 40⟩ ∧ Below w.heap.size w V) := fun V hV =>
      ⟨hEE.below hV (Nat.le_refl _), HKW.out.1.below (HB9.out.trans (hV.mono HB9.out.size)) HKW.out.2, Nat.lt_of_lt_of_le HKW.out.2 (HB9.out.trans (hV.mono HB9.out.size)).size, (hV.block _ (Array.getElem?_eq_some_iff.1 HQ9.out).1).trans HQ9.out, (hV.block _ (Array.getElem?_eq_some_iff.1 HK9.out).1).trans HK9.out, (hV.block _ (Array.getElem?_eq_some_iff.1 HR9.out).1).trans HR9.out, HS9.out.keep hV, HB9.out.trans (hV.mono HB9.out.size)⟩
    have HX9 : Hid _ := HV9.out W9 (Below.refl _ _)
    clear hW9 hEE hlowE HFX HS9 HQ9 HK9 HOW9 HR9 HO6 HD6 HV6 HB62 HB6 HV5 HQ5 HB52 HB5 HR5 HB4 HV3 HR3 HSZ1 HSZ2 HG2 HV HAB HB2 HB02 HR0 HFX0
    have hcs := checkSpan_any z 1 (l : Int) d k1 k2 lo hi ⟨frm, lo6, ln, lc6, ls6, qo6, qn, qc6, ds.take 40⟩ W9 HDL.out (by have := HL0.out; omega) HX9.out.2.2.2.2.2.2.1 (by have := HC6.out.2; show ln ≤ _; omega) HX9.out.2.1 HX9.out.2.2.1 HZ0.out
    obtain ⟨R, HRR⟩ : ∃ r, Hid (spanO z d (l : Int) k1 k2 lo hi ⟨frm, lo6, ln, lc6, ls6, qo6, qn, qc6, ds.take 40⟩ = r) := ⟨_, rfl⟩
    have HGL : Hid (∀ got, R = some got → got.length ≤ 70) := fun got h => Nat.le_trans (spanO_len (HRR.out.trans h)) (by have := HC6.out.2; have := HLN6.out; show ls6.length ≤ 70; omega)
    rw [HRR.out, HKK.out] at hcs
    have HCS : Hid (Calls Tryd.prog 26 #[.agg #[.int .i64 z], .agg kk, .string lo, .string hi, .agg #[.int .i64 frm, .slice lo6 ln lc6, .slice qo6 qn qc6]] W9 fun e w' => ∃ v' er, e = .returned (.tuple #[v', .int .i64 er]) ∧ spanA W9.heap.size w' v' er R ∧ Below W9.heap.size W9 w') := hcs
    clear hcs
    go_wp2_with (first | (refine wpList_load_row rfl 26 (.tmp 12) rfl w2.heap.size rfl 26 #[.int .i64 z] (0, 0) _ HX9.out.2.2.2.1 Tryd.underlying26 rfl size26 ?_) | (refine wpList_load_row rfl 48 (.tmp 13) rfl w4.heap.size rfl 48 kk (0, 0) _ HX9.out.2.2.2.2.1 Tryd.underlying48 rfl (by rw [size48, HKS.out]) ?_) | (refine wpList_load_row rfl 39 (.tmp 9) rfl w.heap.size rfl 39 #[.int .i64 frm, .slice lo6 ln lc6, .slice qo6 qn qc6] (0, 0) _ HX9.out.2.2.2.2.2.1 Tryd.underlying39 rfl size39 ?_))
    refine Calls.mono HCS.out ?_
    rintro e w10 ⟨v10, er, rfl, ⟨her, hrow⟩, hb10⟩
    have HB10 : Hid (Below W9.heap.size W9 w10) := hb10
    have HX10 : Hid _ := HV9.out w10 HB10.out
    have HRO : Hid _ := hrow
    clear hb10 HCS hrow
    cases R with
    | none =>
      have her' : er = 8 := her
      subst her'
      clear her
      have hv : v10 = .slice none 0 0 := HRO.out
      subst hv
      go_wp2
      go_ret
      exact ⟨rfl, HX10.out.2.2.2.2.2.2.2⟩
    | some got =>
      have her' : er = 0 := her
      subst her'
      clear her
      obtain ⟨ao10, c10, hv10, hE10⟩ := own_entsV (show w10.ownsRow W9.heap.size 54 4 v10 got.length (flatE got) from HRO.out) rfl
      obtain ⟨gl, HGLN⟩ : ∃ x, Hid (got.length = x) := ⟨_, rfl⟩
      have hgl := HGL.out got rfl
      rw [HGLN.out] at hv10 hE10 hgl
      subst hv10
      have HE10 : Hid (EntsV w10 ao10 gl got) := hE10
      have HG70 : Hid (gl ≤ 70) := hgl
      obtain ⟨i0, hi0, hz0, hz1, hz2⟩ := info_parts info23
      have hnil := eq_nil hi
      have HEL : Hid _ := HX10.out.1
      have HLN : Hid (fs.length = l) := HL.out
      clear hE10 hgl HGL HRO
      go_wp2
      go_loopw [17, 18] (fun o x wr => ∃ i : Nat, x = .int .i64 i ∧ i ≤ l ∧ wr.ownsRow w10.heap.size 54 4 o (withB lo hi (fs.take i)).length (flatE (withB lo hi (fs.take i))) ∧ Below w10.heap.size w10 wr) (fun _ x _ => l - (intOf x).toNat)
      case atStart => exact ⟨0, rfl, by omega, by simpa [withB, flatE] using World.ownsRow_nil _ _ _ _, Below.refl _ _⟩
      case round =>
        obtain ⟨i, rfl, hil, hown, hbel⟩ := hrel
        have hdl := withB_len lo hi fs i
        have HSN0 : Hid (i < l → ∀ e, fs[i]! = e → withB lo hi (fs.take (i + 1)) = withB lo hi (fs.take i) ++ (if inB lo hi e = true then [e] else [])) := fun h e he => withB_snoc lo hi fs i (by rw [HLN.out]; exact h) e he
        have HALL : Hid (l ≤ i → withB lo hi fs = withB lo hi (fs.take i)) := fun h => by rw [List.take_of_length_le (by rw [HLN.out]; exact h)]
        obtain ⟨done, HDN⟩ : ∃ d, Hid (withB lo hi (fs.take i) = d) := ⟨_, rfl⟩
        rw [HDN.out] at hown hdl HSN0 HALL
        obtain ⟨aod, cd, hvd, hEd⟩ := own_entsV hown rfl
        subst hvd
        obtain ⟨dl, HDLN⟩ : ∃ d, Hid (done.length = d) := ⟨_, rfl⟩
        rw [HDLN.out] at hown hdl hEd
        rw [HDLN.out]
        have HO : Hid _ := And.intro hown hbel
        have HEDV : Hid _ := hEd
        have HDM : Hid (dl ≤ 1000) := by show _ ≤ _; have := HL0.out; omega
        have HWI : Hid (wrap64 ((i : Int) + 1) = ((i + 1 : Nat) : Int)) := by show _ = _; have := HL0.out; unfold wrap64; omega
        have HBA : Hid (Below W9.heap.size W9 wr) := HB10.out.trans (hbel.mono HB10.out.size)
        clear hown hbel hEd hdl
        by_cases hlt : i < l
        · have hltz : (i : Int) < (l : Int) := by omega
          have HNX : Hid (i + 1 ≤ l) := by show _ ≤ _; omega
          obtain ⟨bl, ol, hal, hEnl⟩ := HEL.out.2 (by omega)
          obtain ⟨k0, v0, d0, q0, HX⟩ : ∃ k0 v0 d0 q0, Hid (fs[i]! = E.mk k0 v0 d0 q0) := ⟨_, _, _, _, rfl⟩
          obtain ⟨c0, c1', c2', c3⟩ := ents_four (hEnl.below HO.out.2 (Nat.le_refl _)) i (by rw [HLN.out]; omega) HX.out
          cases hal
          have HSN : Hid _ := HSN0.out hlt _ HX.out
          have HIB : Hid (∀ x y, decide (cmpS lo k0 ≤ 0) = x → belB k0 hi = y → withB lo hi (fs.take (i + 1)) = done ++ (if (x && y) = true then [⟨k0, v0, d0, q0⟩] else [])) := fun x y h1 h2 => by rw [HSN.out]; unfold inB; rw [h1, h2]
          have hlk := less_cmpS k0 lo
          have hlh := less_cmpS k0 hi
          clear hEnl HSN0 HSN
          cases hg : Op.bytesLess k0.toList lo.toList with
          | true =>
            have HS2 : Hid _ := HIB.out false _ (by rw [hg] at hlk; have h1 := of_decide_eq_true hlk.symm; exact decide_eq_false (fun h => by have := (cmpS_ord.anti k0 lo).1 h1; omega)) rfl
            clear hlk hlh hnil HIB
            go_wp2
            go_roundw
            case rel => exact ⟨i + 1, by rw [HWI.out], HNX.out, by rw [HS2.out, if_neg (by simp), List.append_nil, HDLN.out]; exact HO.out.1, HO.out.2⟩
            case measure => (rw [HWI.out]; simp only [intOf]; omega)
          | false =>
            have HGE : Hid (decide (cmpS lo k0 ≤ 0) = true) := by show _ = _; rw [hg] at hlk; have h1 := of_decide_eq_false hlk.symm; exact decide_eq_true (by have := cmpS_ord.anti k0 lo; omega)
            clear hlk
            by_cases he : hi = ByteArray.empty
            · have e2 : (hi.toList == []) = true := by rw [hnil]; exact decide_eq_true he
              have HS2 : Hid _ := HIB.out true true HGE.out (by unfold belB; rw [decide_eq_true he]; rfl)
              clear hnil hlh he HIB HGE
              have HOA : Hid ((wr.alloc (Obj.cells #[.string k0, .string v0, .bool d0, .int .i64 q0] 54)).ownsRow w10.heap.size 54 4 (.slice aod dl cd) dl (flatE done)) := HO.out.1.alloc _
              have HCA : Hid (∀ j u, (encE (E.mk k0 v0 d0 q0))[j]? = some u → (wr.alloc (Obj.cells #[.string k0, .string v0, .bool d0, .int .i64 q0] 54)).cell? ((⟨wr.heap.size, 0, none⟩ : Addr).add j) = some u) := ent_laid wr k0 v0 d0 q0
              have HBB : Hid (w10.heap.size ≤ (wr.alloc (Obj.cells #[.string k0, .string v0, .bool d0, .int .i64 q0] 54)).heap.size) := by show _ ≤ _; have := HO.out.2.size; simp; omega
              go_wp2_with (at_builtin; refine wpList_append_own _ rfl (.tmp 77) (.tmp 82) 22 rfl w10.heap.size 54 i0 _ 4 48 Tryd.underlying22 hi0 hz0 hz1 hz2 rfl (by decide) _ dl (flatE done) rfl HOA.out ⟨wr.heap.size, 0, none⟩ 1 1 (encE (E.mk k0 v0 d0 q0)) rfl rfl HCA.out (encE_one _) (by have := HDM.out; unfold maxLen; omega) (by have := HDM.out; omega) HBB.out ?_)
              intro v' w6' hown6 hgr6 _
              have hbel6 : Below w10.heap.size w10 w6' := (HO.out.2.alloc HO.out.2.size _).trans ((Below.refl _ _).grown hgr6 HBB.out (fun k hk => (HOA.out.lt k hk).1))
              clear hgr6 HOA HCA
              have HN : Hid _ := And.intro hown6 hbel6
              clear hown6 hbel6
              go_wp2
              go_roundw
              case rel =>
                refine ⟨i + 1, by rw [HWI.out], HNX.out, ?_, HN.out.2⟩
                rw [HS2.out, if_pos (by simp), flatE_append, List.length_append, HDLN.out]
                simpa [flatE] using HN.out.1
              case measure => (rw [HWI.out]; simp only [intOf]; omega)
            · have e2 : (hi.toList == []) = false := by rw [hnil]; exact decide_eq_false he
              cases hh : Op.bytesLess k0.toList hi.toList with
              | false =>
                have HS2 : Hid _ := HIB.out true false HGE.out (by unfold belB; rw [decide_eq_false he, Bool.false_or]; rw [hh] at hlh; exact hlh.symm)
                clear hnil hlh he HIB HGE
                go_wp2
                go_roundw
                case rel => exact ⟨i + 1, by rw [HWI.out], HNX.out, by rw [HS2.out, if_neg (by simp), List.append_nil, HDLN.out]; exact HO.out.1, HO.out.2⟩
                case measure => (rw [HWI.out]; simp only [intOf]; omega)
              | true =>
                have HS2 : Hid _ := HIB.out true true HGE.out (by unfold belB; rw [decide_eq_false he, Bool.false_or]; rw [hh] at hlh; exact hlh.symm)
                clear hnil hlh he HIB HGE
                have HOA : Hid ((wr.alloc (Obj.cells #[.string k0, .string v0, .bool d0, .int .i64 q0] 54)).ownsRow w10.heap.size 54 4 (.slice aod dl cd) dl (flatE done)) := HO.out.1.alloc _
                have HCA : Hid (∀ j u, (encE (E.mk k0 v0 d0 q0))[j]? = some u → (wr.alloc (Obj.cells #[.string k0, .string v0, .bool d0, .int .i64 q0] 54)).cell? ((⟨wr.heap.size, 0, none⟩ : Addr).add j) = some u) := ent_laid wr k0 v0 d0 q0
                have HBB : Hid (w10.heap.size ≤ (wr.alloc (Obj.cells #[.string k0, .string v0, .bool d0, .int .i64 q0] 54)).heap.size) := by show _ ≤ _; have := HO.out.2.size; simp; omega
                go_wp2_with (at_builtin; refine wpList_append_own _ rfl (.tmp 77) (.tmp 82) 22 rfl w10.heap.size 54 i0 _ 4 48 Tryd.underlying22 hi0 hz0 hz1 hz2 rfl (by decide) _ dl (flatE done) rfl HOA.out ⟨wr.heap.size, 0, none⟩ 1 1 (encE (E.mk k0 v0 d0 q0)) rfl rfl HCA.out (encE_one _) (by have := HDM.out; unfold maxLen; omega) (by have := HDM.out; omega) HBB.out ?_)
                intro v' w6' hown6 hgr6 _
                have hbel6 : Below w10.heap.size w10 w6' := (HO.out.2.alloc HO.out.2.size _).trans ((Below.refl _ _).grown hgr6 HBB.out (fun k hk => (HOA.out.lt k hk).1))
                clear hgr6 HOA HCA
                have HN : Hid _ := And.intro hown6 hbel6
                clear hown6 hbel6
                go_wp2
                go_roundw
                case rel =>
                  refine ⟨i + 1, by rw [HWI.out], HNX.out, ?_, HN.out.2⟩
                  rw [HS2.out, if_pos (by simp), flatE_append, List.length_append, HDLN.out]
                  simpa [flatE] using HN.out.1
                case measure => (rw [HWI.out]; simp only [intOf]; omega)
        · have hltz : ¬ (i : Int) < (l : Int) := by omega
          have HF : Hid _ := HALL.out (by omega)
          have hsame := same_any ao10 gl c10 got aod dl cd done wr (EntsV.below HE10.out HO.out.2 (Nat.le_refl _)) HEDV.out (by have := HG70.out; omega) (by have := HDM.out; omega)
          obtain ⟨x, HXD⟩ : ∃ x, Hid (decide (got = done) = x) := ⟨_, rfl⟩
          rw [HXD.out] at hsame
          have HSA : Hid _ := hsame
          clear hsame hnil HALL HSN0 HEDV HE10
          go_upto_region 17 with fail
          go_wp2_with fail
          refine Calls.mono HSA.out ?_
          rintro e w20 ⟨rfl, hb20⟩
          have HB20 : Hid (Below W9.heap.size W9 w20) := HBA.out.trans (hb20.mono HBA.out.size)
          have HX20 : Hid _ := HV9.out w20 HB20.out
          clear hb20 HSA
          cases x with
          | true =>
            go_wp2
            go_ret
            exact ⟨rfl, HX20.out.2.2.2.2.2.2.2⟩
          | false =>
            have HNE : Hid (¬ got = withB lo hi fs) := by show ¬ _; rw [HF.out]; exact of_decide_eq_false HXD.out
            clear HXD HF HO HEL
            go_upto_region 20 with fail
            have HS : Hid (∀ V, Below W9.heap.size W9 V → V.cell? ⟨w2.heap.size, 0, none⟩ = some (.int .i64 z) ∧ V.cell? ⟨w.heap.size, 0, none⟩ = some (.int .i64 frm) ∧ V.cell? ⟨w.heap.size, 1, none⟩ = some (.slice lo6 ln lc6) ∧ V.cell? ⟨w.heap.size, 2, none⟩ = some (.slice qo6 qn qc6)) := fun V hV => by
              obtain ⟨-, -, -, h4, -, h6, -⟩ := HV9.out V hV
              exact ⟨by rw [cell_of_row _ _ _ _ _ _ h4]; rfl, by rw [cell_of_row _ _ _ _ _ _ h6]; rfl, by rw [cell_of_row _ _ _ _ _ _ h6]; rfl, by rw [cell_of_row _ _ _ _ _ _ h6]; rfl⟩
            refine wp_region_held_drew (S := fun W => W.cell? ⟨w2.heap.size, 0, none⟩ = some (.int .i64 z) ∧ W.cell? ⟨w.heap.size, 0, none⟩ = some (.int .i64 frm) ∧ W.cell? ⟨w.heap.size, 1, none⟩ = some (.slice lo6 ln lc6) ∧ W.cell? ⟨w.heap.size, 2, none⟩ = some (.slice qo6 qn qc6)) (by kernel_rfl) (HS.out _ (Below.drew HB20.out)) (fun hS => ?_)
            obtain ⟨Wd, HWd⟩ : ∃ W, Hid (w20.drew = W) := ⟨_, rfl⟩
            have HBd : Hid (Below W9.heap.size W9 Wd) := by show Below _ _ _; rw [← HWd.out]; exact Below.drew HB20.out
            have HXd : Hid _ := HV9.out Wd HBd.out
            rw [HWd.out] at hS ⊢
            refine wpAnyH_take (i := 0) (v := ?_) rfl (by kernel_rfl) (by kernel_rfl) (by kernel_rfl) (fun _ _ _ h => h) (Or.inl ⟨by rfl, ?_⟩) (by assumption) ?_
            rotate_left
            · (intro w hSw; (try dsimp only at hSw); go_simp; try with_reducible rfl)
            simp only [Act.put, List.getElem_toArray, List.getElem_cons_zero, List.setIfInBounds_toArray, List.set_cons_zero, List.set_cons_succ]
            refine wpAnyH_take (i := 1) (v := ?_) rfl (by kernel_rfl) (by kernel_rfl) (by kernel_rfl) (fun _ _ _ h => h) (Or.inl ⟨by rfl, ?_⟩) (by assumption) ?_
            rotate_left
            · (intro w hSw; (try dsimp only at hSw); go_simp; try with_reducible rfl)
            simp only [Act.put, List.getElem_toArray, List.getElem_cons_zero, List.getElem_cons_succ, List.setIfInBounds_toArray, List.set_cons_zero, List.set_cons_succ]
            refine wpAnyH_take (i := 3) (v := ?_) rfl (by kernel_rfl) (by kernel_rfl) (by kernel_rfl) (fun _ _ _ h => h) (Or.inl ⟨by rfl, ?_⟩) (by assumption) ?_
            rotate_left
            · (intro w hSw; (try dsimp only at hSw); go_simp; try with_reducible rfl)
            simp only [Act.put, List.getElem_toArray, List.getElem_cons_zero, List.getElem_cons_succ, List.setIfInBounds_toArray, List.set_cons_zero, List.set_cons_succ]
            refine wpAnyH_take (i := 4) (v := ?_) rfl (by kernel_rfl) (by kernel_rfl) (by kernel_rfl) (fun _ _ _ h => h) (Or.inl ⟨by rfl, ?_⟩) (by assumption) ?_
            rotate_left
            · (intro w hSw; (try dsimp only at hSw); go_simp; try with_reducible rfl)
            simp only [Act.put, List.getElem_toArray, List.getElem_cons_zero, List.getElem_cons_succ, List.setIfInBounds_toArray, List.set_cons_zero, List.set_cons_succ]
            refine wpAnyH_take (i := 5) (v := ?_) rfl (by kernel_rfl) (by kernel_rfl) (by kernel_rfl) (fun _ _ _ h => h) (Or.inl ⟨by rfl, ?_⟩) (by assumption) ?_
            rotate_left
            · (intro w hSw; (try dsimp only at hSw); go_simp; try with_reducible rfl)
            simp only [Act.put, List.getElem_toArray, List.getElem_cons_zero, List.getElem_cons_succ, List.setIfInBounds_toArray, List.set_cons_zero, List.set_cons_succ]
            refine wpAnyH_take (i := 6) (v := ?_) rfl (by kernel_rfl) (by kernel_rfl) (by kernel_rfl) (fun _ _ _ h => h) (Or.inl ⟨by rfl, ?_⟩) (by assumption) ?_
            rotate_left
            · (intro w hSw; (try dsimp only at hSw); go_simp; try with_reducible rfl)
            simp only [Act.put, List.getElem_toArray, List.getElem_cons_zero, List.getElem_cons_succ, List.setIfInBounds_toArray, List.set_cons_zero, List.set_cons_succ]
            refine wpAnyH_take (i := 7) (v := ?_) rfl (by kernel_rfl) (by kernel_rfl) (by kernel_rfl) (fun _ _ _ h => h) (Or.inl ⟨by rfl, ?_⟩) (by assumption) ?_
            rotate_left
            · (intro w hSw; (try dsimp only at hSw); go_simp; try with_reducible rfl)
            simp only [Act.put, List.getElem_toArray, List.getElem_cons_zero, List.getElem_cons_succ, List.setIfInBounds_toArray, List.set_cons_zero, List.set_cons_succ]
            refine wpAnyH_take (i := 8) (v := ?_) rfl (by kernel_rfl) (by kernel_rfl) (by kernel_rfl) (fun _ _ _ h => h) (Or.inl ⟨by rfl, ?_⟩) (by assumption) ?_
            rotate_left
            · (intro w hSw; (try dsimp only at hSw); go_simp; try with_reducible rfl)
            simp only [Act.put, List.getElem_toArray, List.getElem_cons_zero, List.getElem_cons_succ, List.setIfInBounds_toArray, List.set_cons_zero, List.set_cons_succ]
            refine wpAnyH_ready (rs := [2]) (by kernel_rfl) (by simp) ?_
            refine AllReadyH.cons rfl (fun K hK => ?_) AllReadyH.nil
            go_simp
            refine Calls.mono (leavesT_any (some ⟨b0, off, none⟩) l c2 fs Wd HXd.out.1 HSM.out.1 (by have := HL0.out; omega)) ?_
            rintro e w21 ⟨v21, rfl, ls0, hLO, hbs, hb21⟩
            have hbs2 : ∀ p ∈ ls0, p.bs.length ≤ 2000 := fun p hp => by
              have h1 : p.bs ∈ fs.map bytesB := by rw [← hbs]; exact List.mem_map_of_mem hp
              obtain ⟨e, -, he⟩ := List.mem_map.1 h1
              rw [← he]; exact bytesB_len3 e
            obtain ⟨aol, cl, hvl, hLV, hbl⟩ := leavesO_V hLO hbs2
            have hll : ls0.length = l := by
              have h1 := congrArg List.length hbs
              simp only [List.length_map] at h1
              rw [h1]; exact HL.out
            rw [hll] at hvl hLV
            subst hvl
            obtain ⟨ls, HLS⟩ : ∃ x, Hid (ls0.map toLV = x) := ⟨_, rfl⟩
            rw [HLS.out] at hLV hbl
            have HLV : Hid (Sm.LeavesV w21 aol l cl ls) := hLV
            have HBY : Hid (Sm.bytesL ls = fs.map bytesB) := by show _ = _; rw [hbl, hbs]
            have HB21 : Hid (Below W9.heap.size W9 w21) := HBd.out.trans (hb21.mono HBd.out.size)
            have HX21 : Hid _ := HV9.out w21 HB21.out
            have HTW : Hid (twoB z (Sm.ofR z ls ls6 frm (ds.take 40)) = true) := by
              rcases HSD.out ls ⟨frm, lo6, ln, lc6, ls6, qo6, qn, qc6, ds.take 40⟩ got HBY.out HX21.out.2.2.2.2.2.2.1.path.1 HRR.out with h | h
              · exact absurd h HNE.out
              · exact h
            have hsv := HX21.out.2.2.2.2.2.2.1
            obtain ⟨o1, HO1⟩ : ∃ o, Hid (Sm.ofR z ls ls6 frm (ds.take 40) = o) := ⟨_, rfl⟩
            have HOF1 : Hid _ := Sm.ofRange_any z aol l cl ls frm lo6 ln lc6 ls6 qo6 qn qc6 (ds.take 40) w21 HLV.out (by have := HL0.out; omega) hsv.leaves (by have := HC6.out.2; omega) hsv.path hsv.len hsv.p1 HX21.out.2.1 HX21.out.2.2.1 HZ0.out
            rw [HO1.out] at HOF1 HTW
            clear hLO hbs hb21 hbs2 hLV hbl hll hsv
            go_wp2_with fail
            refine hK.out _ _ (HS.out _ HB21.out) (fun hHeld2 => ?_)
            clear hK K
            refine wpAnyH_ready (rs := [9]) (by kernel_rfl) (by simp) ?_
            refine AllReadyH.cons rfl (fun K hK => ?_) AllReadyH.nil
            go_simp
            refine Calls.mono HOF1.out ?_
            rintro e w22 ⟨⟨xa, xn, xc, ya, yn, yc, rfl, t1, t2⟩, hb22⟩
            have HB22 : Hid (Below W9.heap.size W9 w22) := HB21.out.trans (hb22.mono HB21.out.size)
            have HX22 : Hid _ := HV9.out w22 HB22.out
            have HTA : Hid _ := two_any z o1 xa xn xc ya yn yc w22 t1 t2 HX22.out.2.1 HX22.out.2.2.1 HZ0.out
            rw [HTW.out] at HTA
            go_wp2_with fail
            refine hK.out _ _ (HS.out _ HB22.out) (fun hHeld3 => ?_)
            clear hK K hHeld2 t1 t2 hb22 HOF1
            refine wpAnyH_take (i := 10) (v := ?_) rfl (by kernel_rfl) (by kernel_rfl) (by kernel_rfl) (fun _ _ _ h => h) (Or.inl ⟨by rfl, ?_⟩) (by assumption) ?_
            rotate_left
            · (intro w hSw; (try dsimp only at hSw); go_simp; try with_reducible rfl)
            simp only [Act.put, List.getElem_toArray, List.getElem_cons_zero, List.getElem_cons_succ, List.setIfInBounds_toArray, List.set_cons_zero, List.set_cons_succ]
            refine wpAnyH_take (i := 11) (v := ?_) rfl (by kernel_rfl) (by kernel_rfl) (by kernel_rfl) (fun _ _ _ h => h) (Or.inl ⟨by rfl, ?_⟩) (by assumption) ?_
            rotate_left
            · (intro w hSw; (try dsimp only at hSw); go_simp; try with_reducible rfl)
            simp only [Act.put, List.getElem_toArray, List.getElem_cons_zero, List.getElem_cons_succ, List.setIfInBounds_toArray, List.set_cons_zero, List.set_cons_succ]
            refine wpAnyH_take (i := 12) (v := ?_) rfl (by kernel_rfl) (by kernel_rfl) (by kernel_rfl) (fun _ _ _ h => h) (Or.inl ⟨by rfl, ?_⟩) (by assumption) ?_
            rotate_left
            · (intro w hSw; (try dsimp only at hSw); go_simp; try with_reducible rfl)
            simp only [Act.put, List.getElem_toArray, List.getElem_cons_zero, List.getElem_cons_succ, List.setIfInBounds_toArray, List.set_cons_zero, List.set_cons_succ]
            refine wpAnyH_take (i := 13) (v := ?_) rfl (by kernel_rfl) (by kernel_rfl) (by kernel_rfl) (fun _ _ _ h => h) (Or.inl ⟨by rfl, ?_⟩) (by assumption) ?_
            rotate_left
            · (intro w hSw; (try dsimp only at hSw); go_simp; try with_reducible rfl)
            simp only [Act.put, List.getElem_toArray, List.getElem_cons_zero, List.getElem_cons_succ, List.setIfInBounds_toArray, List.set_cons_zero, List.set_cons_succ]
            refine wpAnyH_take (i := 14) (v := ?_) rfl (by kernel_rfl) (by kernel_rfl) (by kernel_rfl) (fun _ _ _ h => h) (Or.inl ⟨by rfl, ?_⟩) (by assumption) ?_
            rotate_left
            · (intro w hSw; (try dsimp only at hSw); go_simp; try with_reducible rfl)
            simp only [Act.put, List.getElem_toArray, List.getElem_cons_zero, List.getElem_cons_succ, List.setIfInBounds_toArray, List.set_cons_zero, List.set_cons_succ]
            refine wpAnyH_take (i := 15) (v := ?_) rfl (by kernel_rfl) (by kernel_rfl) (by kernel_rfl) (fun _ _ _ h => h) (Or.inl ⟨by rfl, ?_⟩) (by assumption) ?_
            rotate_left
            · (intro w hSw; (try dsimp only at hSw); go_simp; try with_reducible rfl)
            simp only [Act.put, List.getElem_toArray, List.getElem_cons_zero, List.getElem_cons_succ, List.setIfInBounds_toArray, List.set_cons_zero, List.set_cons_succ]
            refine wpAnyH_take (i := 16) (v := ?_) rfl (by kernel_rfl) (by kernel_rfl) (by kernel_rfl) (fun _ _ _ h => h) (Or.inl ⟨by rfl, ?_⟩) (by assumption) ?_
            rotate_left
            · (intro w hSw; (try dsimp only at hSw); go_simp; try with_reducible rfl)
            simp only [Act.put, List.getElem_toArray, List.getElem_cons_zero, List.getElem_cons_succ, List.setIfInBounds_toArray, List.set_cons_zero, List.set_cons_succ]
            refine wpAnyH_done (by kernel_rfl) ?_ _
            clear hS hHeld3
            go_wp2_with fail
            refine Calls.mono HTA.out ?_
            rintro e w23 ⟨rfl, hb23⟩
            have HBZ : Hid _ := (HV9.out w23 (HB22.out.trans (hb23.mono HB22.out.size))).2.2.2.2.2.2.2
            clear hb23
            go_wp2
            go_ret
            exact ⟨rfl, HBZ.out⟩
end Go.Proofs.YtecacjddggljgaaDoor
