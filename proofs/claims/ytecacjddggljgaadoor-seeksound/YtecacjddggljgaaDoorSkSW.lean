/-
  Who proves what is not so shows two texts: what the law SeekSound answers, for any arguments.
-/
import Derived.Test.YtecacjddggljgaaDoorPartDI
import Derived.Test.YtecacjddggljgaaDoorPartDD
import Derived.BigQuiet
namespace Go.Proofs.YtecacjddggljgaaDoor
open Go.RowKit Go.Sort Go.Shelf
set_option linter.unusedSectionVars false
variable [Inhabited E] [DecidableEq E]
set_option maxRecDepth 100000 in
set_option maxHeartbeats 16000000 in
theorem sound12_walk (ao : Option Addr) (n c : Nat) (es0 : List E) (z : Int) (key : ByteArray) (bt : Bool) (PA PB : Opn) (w : World) (hE : EntsV w ao n es0) (hsm : Small es0) (hnc : n ≤ c) (hc : c ≤ 9223372036854775807) (hz : -9223372036854775808 ≤ z ∧ z ≤ 9223372036854775807) (hA : OpnA w PA) (hB : OpnA w PB) (hK : Sm.WW w 1 Sm.ks) (hz0 : 1 < w.heap.size) :
    Calls Tryd.prog 6 #[.slice ao n c, .int .i64 z, .string key, .agg (pointC bt PA PB)] w fun e w' => e = .returned (.bool true) ∧ Below w.heap.size w w' := by
  obtain ⟨W0, HW0⟩ : ∃ W, Hid (w.alloc (.cells (pointC bt PA PB) 32) = W) := ⟨_, rfl⟩
  have HR0 : Hid (W0.heap[w.heap.size]? = some (.cells (pointC bt PA PB) 32 (0, 0)) ∧ Below w.heap.size w W0 ∧ W0.heap.size = w.heap.size + 1) := by
    show _ ∧ _
    rw [← HW0.out]; exact ⟨heap_alloc_new _ _, bel_alloc _ _, by simp⟩
  have HAB : Hid (∀ V, Below w.heap.size w V → OpnA V PA ∧ OpnA V PB) := fun V hV => ⟨hA.keep hV, hB.keep hV⟩
  have hK0 := hK.below HR0.out.2.1 hz0
  have hz00 : 1 < W0.heap.size := by have := HR0.out.2.2; omega
  have hE0 := hE.below HR0.out.2.1 (Nat.le_refl _)
  clear hA hB hE
  go_enter Tryd.func6, Tryd.ntmps6
  go_upto_region 1 with fail
  rw [HW0.out]
  go_wp2_with fail
  refine (shown12_any W0 hK0 hz00).mono ?_
  rintro e w1 ⟨rfl, hb1⟩
  go_wp2_with fail
  refine (fit4_any ao n c es0 w1 (hE0.below hb1 (Nat.le_refl _)) hsm (by omega)).mono ?_
  rintro e w2 ⟨v2, rfl, hown2, hb2⟩
  have hl2 := fitS_len es0
  have hf2 := fitS_fit es0
  obtain ⟨fs, HF⟩ : ∃ fs, Hid (fitS es0 = fs) := ⟨_, rfl⟩
  rw [HF.out] at hown2 hl2 hf2
  obtain ⟨ao2, c2, rfl, hE2, hlow2⟩ := own_entsL hown2 rfl
  have HB02 : Hid (Below W0.heap.size W0 w2) := hb1.trans (hb2.mono hb1.size)
  have HB2 : Hid (Below w.heap.size w w2) := HR0.out.2.1.trans (HB02.out.mono HR0.out.2.1.size)
  obtain ⟨l, HL⟩ : ∃ l, Hid (fs.length = l) := ⟨_, rfl⟩
  rw [HL.out] at hE2 hl2 hf2 hown2 ⊢
  have hsm2 : Small fs := by rw [← HF.out]; exact right_small (fitS_right es0)
  have HSZ2 : Hid (w1.heap.size ≤ w2.heap.size) := hb2.size
  have HSZ1 : Hid (w.heap.size < w1.heap.size) := by show _ < _; have := hb1.size; have := HR0.out.2.2; omega
  have HV : Hid (∀ V, Below w2.heap.size w2 V → EntsV V ao2 l fs ∧ (∀ x, ao2 = some x → x.block < V.heap.size) ∧ Sm.WW V 1 Sm.ks ∧ 1 < V.heap.size ∧ Below w.heap.size w V ∧ V.ownsRow w1.heap.size 54 4 (.slice ao2 l c2) l (flatE fs) ∧ V.heap[w.heap.size]? = some (.cells (pointC bt PA PB) 32 (0, 0))) := fun V hV =>
    ⟨hE2.below hV (Nat.le_refl _), fun x hx => Nat.lt_of_lt_of_le (hlow2 x hx) hV.size, (hK.below HB2.out hz0).below hV (Nat.lt_of_lt_of_le hz0 HB2.out.size), Nat.lt_of_lt_of_le hz0 (Nat.le_trans HB2.out.size hV.size), HB2.out.trans (hV.mono HB2.out.size), own_below hown2 hV (Nat.le_refl _), ((hV.block _ (by have := HB02.out.size; have := HR0.out.2.2; omega)).trans (HB02.out.block _ (by have := HR0.out.2.2; omega))).trans HR0.out.1⟩
  have HSM : Hid (Small fs ∧ l ≤ 64) := ⟨hsm2, hl2⟩
  have HZ0 : Hid _ := hz
  have HKW : Hid (Sm.WW w 1 Sm.ks ∧ 1 < w.heap.size) := ⟨hK, hz0⟩
  clear hb1 hb2 hE0 hsm hown2 hE2 hlow2 hK hz0 hnc hc hsm2 hl2 hz hK0 hz00
  go_upto_region 4 with (refine wpList_store_row rfl 26 (.tmp 10) (.tmp 29) rfl w2.heap.size #[.int .i64 z] rfl rfl 26 #[.int .i64 0] (heap_alloc_new _ _) size26 rfl (by simp [Value.oneCell']) ?_)
  generalize hW3 : World.setRow _ _ _ = W3
  have HR3 : Hid _ := stored hW3
  have HV3 : Hid _ := HV.out W3 HR3.out.2.1
  clear hW3
  go_wp2_with (refine wpList_load_row rfl 26 (.tmp 10) rfl w2.heap.size rfl 26 #[.int .i64 z] (0, 0) _ HR3.out.1 Tryd.underlying26 rfl size26 ?_)
  by_cases h0 : l = 0
  · have hff : fitB fs = false := by unfold fitB; rw [decide_eq_false (by have := HL.out; omega)]; rfl
    refine Calls.mono (describe_wrong z 1 ao2 l c2 fs W3 HV3.out.1 HSM.out.1 (by omega) (by rw [hff]; simp)) ?_
    rintro e w4 ⟨rfl, hb4⟩
    have HB4 : Hid (Below W3.heap.size W3 w4) := hb4
    clear hb4 hff h0 hf2
    go_upto_region 5 with (refine wpList_store_row rfl 48 (.tmp 11) (.tmp 34) rfl w4.heap.size zeroT rfl rfl 48 zeroT (heap_alloc_new _ _) (by rw [size48]; rfl) rfl (tabC_all _ _ _ _ _) ?_)
    generalize hW5 : World.setRow _ _ _ = W5
    have HR5 : Hid _ := stored hW5
    have HB52 : Hid (Below w2.heap.size w2 W5) := HR3.out.2.1.trans ((HB4.out.trans (HR5.out.2.1.mono HB4.out.size)).mono (by have := HR3.out.2.2; omega))
    have HBX : Hid _ := (HV.out W5 HB52.out).2.2.2.2.1
    clear hW5
    go_wp2
    go_ret
    exact ⟨rfl, HBX.out⟩
  · have hff : fitB fs = true := hf2 (by omega)
    have HFF : Hid _ := hff
    have HL0 : Hid (0 < l ∧ l ≤ 64) := ⟨by omega, HSM.out.2⟩
    obtain ⟨b0, off, hao, -⟩ := HV3.out.1.2 (by omega)
    subst hao
    have hds := describe_some z 1 b0 off l c2 fs W3 HV3.out.1 hff (by omega) HV3.out.2.2.1 HV3.out.2.2.2.1 HZ0.out (HV3.out.2.1 _ rfl)
    have hsd := fun (ls : List Sm.LV) (A B : Opn) (r : Option E) hb hA hB h => sound_math (z := z) (es := fs) (ls := ls) (key := key) (bt := bt) (A := A) (B := B) (r := r) hff hb hA hB h
    obtain ⟨d, HD⟩ : ∃ d, Hid (Sm.rootD z (fs.map bytesB) = d) := ⟨_, rfl⟩
    have HDL : Hid (d.length = 32) := by show _ = _; rw [← HD.out]; exact Sm.rootD_length _ _
    obtain ⟨k1, HK1⟩ : ∃ k, Hid (fs[0]!.key = k) := ⟨_, rfl⟩
    obtain ⟨k2, HK2⟩ : ∃ k, Hid (fs[fs.length - 1]!.key = k) := ⟨_, rfl⟩
    rw [HD.out, HK1.out, HK2.out, HL.out] at hds hsd
    obtain ⟨kk, HKK⟩ : ∃ k, Hid (tabC 1 (l : Int) d k1 k2 = k) := ⟨_, rfl⟩
    have HKS : Hid (kk.size = 36) := by show _ = _; rw [← HKK.out]; exact tabC_size _ _ HDL.out _ _
    have HKA : Hid (kk.all (·.oneCell') = true) := by show _ = _; rw [← HKK.out]; exact tabC_all _ _ _ _ _
    have HZ : Hid ((zeroT).size = 36) := tabC_size 0 0 (by simp) _ _
    rw [HKK.out] at hds
    have HSD : Hid _ := hsd
    refine Calls.mono hds ?_
    rintro e w4 ⟨rfl, hb4⟩
    have HB4 : Hid (Below W3.heap.size W3 w4) := hb4
    clear hb4 hff h0 hf2 hds hsd
    go_upto_region 5 with (refine wpList_store_row rfl 48 (.tmp 11) (.tmp 34) rfl w4.heap.size kk rfl rfl 48 zeroT (heap_alloc_new _ _) (by rw [size48, HKS.out]) (by rw [HKS.out, HZ.out]) HKA.out ?_)
    generalize hW5 : World.setRow _ _ _ = W5
    have HR5 : Hid _ := stored hW5
    have HB5 : Hid (Below W3.heap.size W3 W5) := HB4.out.trans (HR5.out.2.1.mono HB4.out.size)
    have HB52 : Hid (Below w2.heap.size w2 W5) := HR3.out.2.1.trans (HB5.out.mono (by have := HR3.out.2.2; omega))
    have HQ5 : Hid (W5.heap[w2.heap.size]? = some (.cells #[.int .i64 z] 26 (0, 0))) := (HB5.out.block _ (by have := HR3.out.2.2; omega)).trans HR3.out.1
    have HV5 : Hid _ := HV.out W5 HB52.out
    clear hW5
    have HPC : Hid _ := point_any bt PA PB W5 (HAB.out W5 HV5.out.2.2.2.2.1).1 (HAB.out W5 HV5.out.2.2.2.2.1).2
    go_wp2_with (refine wpList_load_row rfl 32 (.tmp 7) rfl w.heap.size rfl 32 (pointC bt PA PB) (0, 0) _ HV5.out.2.2.2.2.2.2 Tryd.underlying32 rfl size32 ?_)
    refine Calls.mono HPC.out ?_
    rintro e w6 ⟨⟨a, lo, ln, lc, bs, po, pn, pc, ds⟩, ⟨b, mo, mn, mc, cs, qo, qn, qc, es⟩, rfl, hA6, hB6, -, -, hln, hpn, hmn, hqn, hFA, hFB, hb6⟩
    have HB6 : Hid (Below W5.heap.size W5 w6) := hb6
    have HB62 : Hid (Below w2.heap.size w2 w6) := HB52.out.trans (hb6.mono HB52.out.size)
    have HV6 : Hid _ := HV.out w6 HB62.out
    have HO6 : Hid _ := And.intro hA6 hB6
    have HF6 : Hid _ := And.intro hFA hFB
    have HN6 : Hid (ln ≤ 1300 ∧ pn ≤ 20 ∧ mn ≤ 1300 ∧ qn ≤ 20) := ⟨hln, hpn, hmn, hqn⟩
    clear hA6 hB6 hFA hFB hb6 hln hpn hmn hqn HPC
    simp only [pointC]
    go_upto_region 8 with (refine wpList_store_row rfl 32 (.tmp 7) (.tmp 40) rfl w.heap.size #[.bool bt, .int .i64 a, .slice lo ln lc, .slice po pn pc, .int .i64 b, .slice mo mn mc, .slice qo qn qc] rfl rfl 32 (pointC bt PA PB) HV6.out.2.2.2.2.2.2 size32 rfl (one7 _ _ _ _ _ _ _ _ _ _ _ _ _ _ _) ?_)
    generalize hW9 : World.setRow _ _ _ = W9
    have HG2 : Hid (w.heap.size < w1.heap.size ∧ w1.heap.size ≤ w2.heap.size ∧ w2.heap.size < W5.heap.size ∧ w4.heap.size < w6.heap.size ∧ W9.heap.size = w6.heap.size ∧ w.heap.size < w2.heap.size ∧ w.heap.size < w4.heap.size ∧ w.heap.size < W5.heap.size ∧ w2.heap.size < w6.heap.size) := by
      have h1 := HSZ1.out
      have h2 := HSZ2.out
      have h3 := HR3.out.2.2
      have h4 := HB4.out.size
      have h5 := HR5.out.2.2
      have h6 := HB6.out.size
      refine ⟨by omega, by omega, by omega, by omega, by rw [← hW9]; simp, by omega, by omega, by omega, by omega⟩
    have HB9 : Hid (Below w.heap.size w W9) := by show Below _ _ _; rw [← hW9]; exact below_setRow HV6.out.2.2.2.2.1 (Nat.le_refl _) _
    have HR9 : Hid (W9.heap[w.heap.size]? = some (.cells #[.bool bt, .int .i64 a, .slice lo ln lc, .slice po pn pc, .int .i64 b, .slice mo mn mc, .slice qo qn qc] 32 (0, 0))) := by show _ = _; rw [← hW9]; exact setRow_heap _ _ _ _ _ _ HV6.out.2.2.2.2.2.2
    have HFX : Hid (∀ k, k ≠ w.heap.size → W9.heap[k]? = w6.heap[k]?) := fun k hk => by rw [← hW9]; exact setRow_other w6 _ k _ hk
    have HOW9 : Hid (W9.ownsRow w1.heap.size 54 4 (.slice (some ⟨b0, off, none⟩) l c2) l (flatE fs)) := by show World.ownsRow _ _ _ _ _ _ _; rw [← hW9]; exact own_rowlow HV6.out.2.2.2.2.2.1 HSZ1.out
    have HK9 : Hid (W9.heap[w4.heap.size]? = some (.cells kk 48 (0, 0))) := (HFX.out _ (by have := HG2.out; omega)).trans ((HB6.out.block _ (by have := HR5.out.2.2; omega)).trans HR5.out.1)
    have HQ9 : Hid (W9.heap[w2.heap.size]? = some (.cells #[.int .i64 z] 26 (0, 0))) := (HFX.out _ (by have := HG2.out; omega)).trans ((HB6.out.block _ (by have := HG2.out; omega)).trans HQ5.out)
    have HO9 : Hid (OpnV W9 ⟨a, lo, ln, lc, bs, po, pn, pc, ds⟩ ∧ OpnV W9 ⟨b, mo, mn, mc, cs, qo, qn, qc, es⟩) := ⟨HO6.out.1.shift HF6.out.1 (fun k hk => HFX.out k (by have := HG2.out; omega)), HO6.out.2.shift HF6.out.2 (fun k hk => HFX.out k (by have := HG2.out; omega))⟩
    obtain ⟨aoE, cE, hvE, hEE, hlowE⟩ := own_entsL HOW9.out HL.out
    cases hvE
    have HV9 : Hid (∀ V, Below W9.heap.size W9 V → EntsV V (some ⟨b0, off, none⟩) l fs ∧ Sm.WW V 1 Sm.ks ∧ 1 < V.heap.size ∧ V.heap[w2.heap.size]? = some (.cells #[.int .i64 z] 26 (0, 0)) ∧ V.heap[w4.heap.size]? = some (.cells kk 48 (0, 0)) ∧ V.heap[w.heap.size]? = some (.cells #[.bool bt, .int .i64 a, .slice lo ln lc, .slice po pn pc, .int .i64 b, .slice mo mn mc, .slice qo qn qc] 32 (0, 0)) ∧ OpnV V ⟨a, lo, ln, lc, bs, po, pn, pc, ds⟩ ∧ OpnV V ⟨b, mo, mn, mc, cs, qo, qn, qc, es⟩ ∧ Below w.heap.size w V) := fun V hV =>
      ⟨hEE.below hV (Nat.le_refl _), HKW.out.1.below (HB9.out.trans (hV.mono HB9.out.size)) HKW.out.2, Nat.lt_of_lt_of_le HKW.out.2 (HB9.out.trans (hV.mono HB9.out.size)).size, (hV.block _ (Array.getElem?_eq_some_iff.1 HQ9.out).1).trans HQ9.out, (hV.block _ (Array.getElem?_eq_some_iff.1 HK9.out).1).trans HK9.out, (hV.block _ (Array.getElem?_eq_some_iff.1 HR9.out).1).trans HR9.out, HO9.out.1.keep hV, HO9.out.2.keep hV, HB9.out.trans (hV.mono HB9.out.size)⟩
    have HX9 : Hid _ := HV9.out W9 (Below.refl _ _)
    clear hW9 hEE hlowE HFX HO9 HQ9 HK9 HOW9 HR9 HO6 HF6 HV6 HB62 HB6 HV5 HQ5 HB52 HB5 HR5 HB4 HV3 HR3 HSZ1 HSZ2 HG2 HV HAB HB2 HB02 HR0
    have hck := check12_any z 1 (l : Int) d k1 k2 key bt ⟨a, lo, ln, lc, bs, po, pn, pc, ds⟩ ⟨b, mo, mn, mc, cs, qo, qn, qc, es⟩ W9 HDL.out (by have := HL0.out; omega) HX9.out.2.2.2.2.2.2.1 HX9.out.2.2.2.2.2.2.2.1 HX9.out.2.1 HX9.out.2.2.1 HZ0.out
    obtain ⟨R, HRR⟩ : ∃ r, Hid (chkO z d (l : Int) k1 k2 key bt ⟨a, lo, ln, lc, bs, po, pn, pc, ds⟩ ⟨b, mo, mn, mc, cs, qo, qn, qc, es⟩ = r) := ⟨_, rfl⟩
    rw [HRR.out, HKK.out] at hck
    have HCK : Hid (Calls Tryd.prog 23 #[.agg #[.int .i64 z], .agg kk, .string key, .agg #[.bool bt, .int .i64 a, .slice lo ln lc, .slice po pn pc, .int .i64 b, .slice mo mn mc, .slice qo qn qc]] W9 fun e w' => e = .returned (chkV R) ∧ Below W9.heap.size W9 w') := hck
    clear hck
    go_wp2_with (first | (refine wpList_load_row rfl 26 (.tmp 10) rfl w2.heap.size rfl 26 #[.int .i64 z] (0, 0) _ HX9.out.2.2.2.1 Tryd.underlying26 rfl size26 ?_) | (refine wpList_load_row rfl 48 (.tmp 11) rfl w4.heap.size rfl 48 kk (0, 0) _ HX9.out.2.2.2.2.1 Tryd.underlying48 rfl (by rw [size48, HKS.out]) ?_) | (refine wpList_load_row rfl 32 (.tmp 7) rfl w.heap.size rfl 32 #[.bool bt, .int .i64 a, .slice lo ln lc, .slice po pn pc, .int .i64 b, .slice mo mn mc, .slice qo qn qc] (0, 0) _ HX9.out.2.2.2.2.2.1 Tryd.underlying32 rfl size32 ?_))
    refine Calls.mono HCK.out ?_
    rintro e w10 ⟨rfl, hb10⟩
    have HB10 : Hid (Below W9.heap.size W9 w10) := hb10
    clear hb10 HCK
    cases R with
    | none =>
      simp only [chkV, encE]
      go_upto_region 9 with (refine wpList_store_row rfl 54 (.tmp 13) (.tmp 47) rfl w10.heap.size #[.string zeroE.key, .string zeroE.value, .bool zeroE.del, .int .i64 zeroE.seq] rfl rfl 54 #[.string ⟨#[]⟩, .string ⟨#[]⟩, .bool false, .int .i64 0] (heap_alloc_new w10 _) size54 rfl (one4 _ _ _ _) ?_)
      generalize hW11 : World.setRow _ _ _ = W11
      have HBZ : Hid (Below w.heap.size w W11) := (HV9.out W11 (HB10.out.trans ((stored hW11).2.1.mono HB10.out.size))).2.2.2.2.2.2.2.2
      clear hW11
      go_wp2
      go_ret
      exact ⟨rfl, HBZ.out⟩
    | some r =>
      have hform : ∃ k v dd q, chkV (some r) = .tuple #[.agg #[.string k, .string v, .bool dd, .int .i64 q], .bool r.isSome, .int .i64 0] ∧ (∀ e, r = some e → e = ⟨k, v, dd, q⟩) := by
        cases r with
        | none => exact ⟨_, _, _, _, rfl, fun e h => by cases h⟩
        | some e => exact ⟨e.key, e.value, e.del, e.seq, rfl, fun e' h => by cases h; rfl⟩
      obtain ⟨k0, v0, d0, q0, hfm, hre⟩ := hform
      rw [hfm]
      have HRE : Hid _ := hre
      clear hfm hre
      go_upto_region 9 with (refine wpList_store_row rfl 54 (.tmp 13) (.tmp 47) rfl w10.heap.size #[.string k0, .string v0, .bool d0, .int .i64 q0] rfl rfl 54 #[.string ⟨#[]⟩, .string ⟨#[]⟩, .bool false, .int .i64 0] (heap_alloc_new w10 _) size54 rfl (one4 _ _ _ _) ?_)
      generalize hW11 : World.setRow _ _ _ = W11
      have HR11 : Hid _ := stored hW11
      have HB11 : Hid (Below W9.heap.size W9 W11) := HB10.out.trans (HR11.out.2.1.mono HB10.out.size)
      clear hW11
      go_wp2_with fail
      refine Calls.mono (find_any (some ⟨b0, off, none⟩) l c2 fs key W11 (HV9.out W11 HB11.out).1 (by have := HL0.out; omega)) ?_
      rintro e w12 ⟨rfl, hb12⟩
      have HB12 : Hid (Below W9.heap.size W9 w12) := HB11.out.trans (hb12.mono HB11.out.size)
      have HR12 : Hid (w12.heap[w10.heap.size]? = some (.cells #[.string k0, .string v0, .bool d0, .int .i64 q0] 54 (0, 0))) := (hb12.block _ (by have := HR11.out.2.2; omega)).trans HR11.out.1
      obtain ⟨x, HXD⟩ : ∃ x, Hid (decide (r = if isIn key fs = true then some fs[belowN key fs]! else none) = x) := ⟨_, rfl⟩
      have HKB : Hid (isIn key fs = true → belowN key fs < l) := fun h => by rw [← HL.out]; exact isIn_below h
      have HRD : Hid (x = decide (r = if isIn key fs = true then some fs[belowN key fs]! else none)) := HXD.out.symm
      obtain ⟨bn, HBN⟩ : ∃ x, Hid (belowN key fs = x) := ⟨_, rfl⟩
      obtain ⟨ii, HII⟩ : ∃ x, Hid (isIn key fs = x) := ⟨_, rfl⟩
      rw [HBN.out, HII.out] at HKB HRD
      rw [HBN.out, HII.out]
      clear hb12 HR11
      go_upto_region 12 with fail
      go_cut [79] (fun s wx => s = .bool x ∧ Hid (Below W9.heap.size W9 wx))
      case first =>
        as_aux_lemma =>
          cases r with
          | none =>
            simp only [Option.isSome_none]
            cases ii with
            | false =>
              have hx : x = true := by rw [HRD.out]; exact decide_eq_true rfl
              subst hx
              go_quiet (fail)
              go_wp2
              go_meet
              case rel => exact ⟨rfl, bel_drewN HB12.out nq⟩
            | true =>
              have hx : x = false := by rw [HRD.out]; exact decide_eq_false (by rw [if_pos rfl]; intro h; cases h)
              subst hx
              go_quiet (fail)
              go_wp2
              go_meet
              case rel => exact ⟨rfl, bel_drewN HB12.out nq⟩
          | some e =>
            obtain rfl := HRE.out e rfl
            simp only [Option.isSome_some]
            cases ii with
            | false =>
              have hx : x = false := by rw [HRD.out]; exact decide_eq_false (by intro h; cases h)
              subst hx
              go_quiet (fail)
              go_wp2
              go_meet
              case rel => exact ⟨rfl, bel_drewN HB12.out nq⟩
            | true =>
              have hrow := HR12.out
              have x0 : w12.cell? ⟨w10.heap.size, 0, none⟩ = some (.string k0) := by rw [cell_of_row _ _ _ _ _ _ hrow]; rfl
              have x1 : w12.cell? ⟨w10.heap.size, 1, none⟩ = some (.string v0) := by rw [cell_of_row _ _ _ _ _ _ hrow]; rfl
              have x2 : w12.cell? ⟨w10.heap.size, 2, none⟩ = some (.bool d0) := by rw [cell_of_row _ _ _ _ _ _ hrow]; rfl
              have x3 : w12.cell? ⟨w10.heap.size, 3, none⟩ = some (.int .i64 q0) := by rw [cell_of_row _ _ _ _ _ _ hrow]; rfl
              obtain ⟨bl, ol, hal, hEnl⟩ := (HV9.out w12 HB12.out).1.2 (by have := HL0.out; omega)
              obtain ⟨k3, v3, d3, q3, HX⟩ : ∃ k0 v0 d0 q0, Hid (fs[bn]! = E.mk k0 v0 d0 q0) := ⟨_, _, _, _, rfl⟩
              have hbl : bn < l := HKB.out rfl
              obtain ⟨y0, y1, y2, y3⟩ := ents_four hEnl bn (by rw [HL.out]; omega) HX.out
              cases hal
              have heq := fun W => equal23 k0 v0 d0 q0 k3 v3 d3 q3 W
              have hgd := guard23
              have hblz : (bn : Int) < (l : Int) := by omega
              have hbld : decide ((bn : Int) < (l : Int)) = true := decide_eq_true hblz
              clear hrow hEnl
              by_cases he : (⟨k0, v0, d0, q0⟩ : E) = ⟨k3, v3, d3, q3⟩
              · have hx : x = true := by rw [HRD.out]; exact decide_eq_true (by rw [if_pos rfl, HX.out, he])
                subst hx
                rw [decide_eq_true he] at heq
                clear he
                go_quiet (fail)
                go_wp2
                go_meet
                case rel => exact ⟨rfl, bel_drewN HB12.out nq⟩
              · have hx : x = false := by rw [HRD.out]; exact decide_eq_false (by rw [if_pos rfl, HX.out]; intro h; exact he (Option.some.inj h))
                subst hx
                rw [decide_eq_false he] at heq
                clear he
                go_quiet (fail)
                go_wp2
                go_meet
                case rel => exact ⟨rfl, bel_drewN HB12.out nq⟩
      case rest =>
        as_aux_lemma =>
          obtain ⟨rfl, HBC⟩ := hcut
          obtain ⟨wd, hwd⟩ : ∃ W, W = wc := ⟨_, rfl⟩
          rw [← hwd] at HBC ⊢
          clear hwd
          have HXC : Hid _ := HV9.out wd HBC.out
          cases x with
          | true =>
            go_wp2
            go_ret
            exact ⟨rfl, HXC.out.2.2.2.2.2.2.2.2⟩
          | false =>
            have HNE : Hid (¬ r = if isIn key fs = true then some fs[belowN key fs]! else none) := by show ¬ _; rw [HBN.out, HII.out]; exact of_decide_eq_false HRD.out.symm
            clear HRD HR12 HB12 HB11 HKB HRE
            go_upto_region 14 with fail
            go_wp2_with fail
            refine Calls.mono (leavesT_any (some ⟨b0, off, none⟩) l c2 fs wd HXC.out.1 HSM.out.1 (by have := HL0.out; omega)) ?_
            rintro e w13 ⟨v13, rfl, ls0, hLO, hbs, hb13⟩
            have hbs2 : ∀ p ∈ ls0, p.bs.length ≤ 2000 := fun p hp => by
              have h1 : p.bs ∈ fs.map bytesB := by rw [← hbs]; exact List.mem_map_of_mem hp
              obtain ⟨e, -, he⟩ := List.mem_map.1 h1
              rw [← he]; exact bytesB_len3 e
            obtain ⟨aol, cl, hvl, hLV, hbl⟩ := leavesO_V hLO hbs2
            have hll : ls0.length = l := by
              have h1 := congrArg List.length hbs
              simp only [List.length_map] at h1
              rw [h1]; exact HL.out
            rw [hll] at hvl hLV
            subst hvl
            obtain ⟨ls, HLS⟩ : ∃ x, Hid (ls0.map toLV = x) := ⟨_, rfl⟩
            rw [HLS.out] at hLV hbl
            have HLV : Hid (Sm.LeavesV w13 aol l cl ls) := hLV
            have HBY : Hid (Sm.bytesL ls = fs.map bytesB) := by show _ = _; rw [hbl, hbs]
            have HB13 : Hid (Below W9.heap.size W9 w13) := HBC.out.trans (hb13.mono HBC.out.size)
            have HX13 : Hid _ := HV9.out w13 HB13.out
            have HTW : Hid ((twoB z (Sm.ofO z ls a (lvO ⟨a, lo, ln, lc, bs, po, pn, pc, ds⟩) ds) || (bt && twoB z (Sm.ofO z ls b (lvO ⟨b, mo, mn, mc, cs, qo, qn, qc, es⟩) es))) = true) := by
              rcases HSD.out ls ⟨a, lo, ln, lc, bs, po, pn, pc, ds⟩ ⟨b, mo, mn, mc, cs, qo, qn, qc, es⟩ r HBY.out HX13.out.2.2.2.2.2.2.1.path.1 HX13.out.2.2.2.2.2.2.2.1.path.1 HRR.out with h | h
              · exact absurd h HNE.out
              · exact h
            have hrow := HX13.out.2.2.2.2.2.1
            have g1 : w13.cell? ⟨w.heap.size, 1, none⟩ = some (.int .i64 a) := by rw [cell_of_row _ _ _ _ _ _ hrow]; rfl
            have g2 : w13.cell? ⟨w.heap.size, 1 + 1, none⟩ = some (.slice lo ln lc) := by rw [cell_of_row _ _ _ _ _ _ hrow]; rfl
            have g3 : w13.cell? ⟨w.heap.size, 1 + 2, none⟩ = some (.slice po pn pc) := by rw [cell_of_row _ _ _ _ _ _ hrow]; rfl
            have hO1 := HX13.out.2.2.2.2.2.2.1
            obtain ⟨o1, HO1⟩ : ∃ o, Hid (Sm.ofO z ls a (lvO ⟨a, lo, ln, lc, bs, po, pn, pc, ds⟩) ds = o) := ⟨_, rfl⟩
            have HOF1 : Hid _ := Sm.ofOne_any z aol l cl ls a (lvO ⟨a, lo, ln, lc, bs, po, pn, pc, ds⟩) po pn pc ds w13 HLV.out (by have := HL0.out; omega) hO1.leaf hO1.l3 hO1.l0 hO1.path hO1.len hO1.p1 hO1.p2 HX13.out.2.1 HX13.out.2.2.1 HZ0.out
            obtain ⟨o2, HO2⟩ : ∃ o, Hid (Sm.ofO z ls b (lvO ⟨b, mo, mn, mc, cs, qo, qn, qc, es⟩) es = o) := ⟨_, rfl⟩
            rw [HO1.out] at HOF1 HTW
            rw [HO2.out] at HTW
            clear hrow hO1 hLO hbs hb13 hbs2 hLV hbl hll HNE HSD HXC
            go_upto_region 15 with fail
            go_wp2_with (first | (refine wpList_load_row rfl 26 (.tmp 10) rfl w2.heap.size rfl 26 #[.int .i64 z] (0, 0) _ HX13.out.2.2.2.1 Tryd.underlying26 rfl size26 ?_))
            refine Calls.mono HOF1.out ?_
            rintro e w14 ⟨⟨xa, xn, xc, ya, yn, yc, rfl, t1, t2⟩, hb14⟩
            have HB14 : Hid (Below W9.heap.size W9 w14) := HB13.out.trans (hb14.mono HB13.out.size)
            have HX14 : Hid _ := HV9.out w14 HB14.out
            have HT14 : Hid (∀ V, Below w14.heap.size w14 V → Sm.TxV V xa xn xc (Sm.oA o1) ∧ Sm.TxV V ya yn yc (Sm.oB o1)) := fun V hV => ⟨t1.below hV (Nat.le_refl _), t2.below hV (Nat.le_refl _)⟩
            have hrow := HX14.out.2.2.2.2.2.1
            have g4 : w14.cell? ⟨w.heap.size, 4, none⟩ = some (.int .i64 b) := by rw [cell_of_row _ _ _ _ _ _ hrow]; rfl
            have g5 : w14.cell? ⟨w.heap.size, 4 + 1, none⟩ = some (.slice mo mn mc) := by rw [cell_of_row _ _ _ _ _ _ hrow]; rfl
            have g6 : w14.cell? ⟨w.heap.size, 4 + 2, none⟩ = some (.slice qo qn qc) := by rw [cell_of_row _ _ _ _ _ _ hrow]; rfl
            have hO2 := HX14.out.2.2.2.2.2.2.2.1
            have HOF2 : Hid _ := Sm.ofOne_any z aol l cl ls b (lvO ⟨b, mo, mn, mc, cs, qo, qn, qc, es⟩) qo qn qc es w14 (HLV.out.below hb14 (Nat.le_refl _)) (by have := HL0.out; omega) hO2.leaf hO2.l3 hO2.l0 hO2.path hO2.len hO2.p1 hO2.p2 HX14.out.2.1 HX14.out.2.2.1 HZ0.out
            rw [HO2.out] at HOF2
            clear hrow hO2 t1 t2 hb14 g1 g2 g3 HOF1
            go_upto_region 16 with fail
            go_wp2_with (first | (refine wpList_load_row rfl 26 (.tmp 10) rfl w2.heap.size rfl 26 #[.int .i64 z] (0, 0) _ HX14.out.2.2.2.1 Tryd.underlying26 rfl size26 ?_))
            refine Calls.mono HOF2.out ?_
            rintro e w15 ⟨⟨ua, un, uc, va, vn, vc, rfl, t3, t4⟩, hb15⟩
            have HB15 : Hid (Below W9.heap.size W9 w15) := HB14.out.trans (hb15.mono HB14.out.size)
            have HX15 : Hid _ := HV9.out w15 HB15.out
            have HT15 : Hid (∀ V, Below w15.heap.size w15 V → Sm.TxV V ua un uc (Sm.oA o2) ∧ Sm.TxV V va vn vc (Sm.oB o2)) := fun V hV => ⟨t3.below hV (Nat.le_refl _), t4.below hV (Nat.le_refl _)⟩
            have HTA : Hid _ := two_any z o1 xa xn xc ya yn yc w15 (HT14.out w15 hb15).1 (HT14.out w15 hb15).2 HX15.out.2.1 HX15.out.2.2.1 HZ0.out
            obtain ⟨T1, HT1⟩ : ∃ t, Hid (twoB z o1 = t) := ⟨_, rfl⟩
            obtain ⟨T2, HT2⟩ : ∃ t, Hid (twoB z o2 = t) := ⟨_, rfl⟩
            rw [HT1.out] at HTA HTW
            rw [HT2.out] at HTW
            clear t3 t4 hb15 g4 g5 g6 HOF2
            go_upto_region 17 with fail
            go_wp2_with fail
            refine Calls.mono HTA.out ?_
            rintro e w16 ⟨rfl, hb16⟩
            have HB16 : Hid (Below W9.heap.size W9 w16) := HB15.out.trans (hb16.mono HB15.out.size)
            have HX16 : Hid _ := HV9.out w16 HB16.out
            have hrow := HX16.out.2.2.2.2.2.1
            have g0 : w16.cell? ⟨w.heap.size, 0, none⟩ = some (.bool bt) := by rw [cell_of_row _ _ _ _ _ _ hrow]; rfl
            have HTB : Hid _ := two_any z o2 ua un uc va vn vc w16 (HT15.out w16 hb16).1 (HT15.out w16 hb16).2 HX16.out.2.1 HX16.out.2.2.1 HZ0.out
            rw [HT2.out] at HTB
            clear hrow hb16 HTA
            cases T1 with
            | true =>
              go_wp2
              go_ret
              exact ⟨rfl, HX16.out.2.2.2.2.2.2.2.2⟩
            | false =>
              have hbt : bt = true ∧ T2 = true := by have h := HTW.out; simpa using h
              obtain ⟨rfl, rfl⟩ := hbt
              go_wp2_with fail
              refine Calls.mono HTB.out ?_
              rintro e w17 ⟨rfl, hb17⟩
              have HBZ : Hid _ := (HV9.out w17 (HB16.out.trans (hb17.mono HB16.out.size))).2.2.2.2.2.2.2.2
              clear hb17
              go_wp2
              go_ret
              exact ⟨rfl, HBZ.out⟩
end Go.Proofs.YtecacjddggljgaaDoor
