/-
  What is proved is checked: what the law SeekBack answers, for any arguments.
-/
import Derived.Test.YtecacjddggljgaaDoorSkV
import Derived.BigQuiet
namespace Go.Proofs.YtecacjddggljgaaDoor
open Go.RowKit Go.Sort Go.Shelf
set_option linter.unusedSectionVars false
variable [Inhabited E] [DecidableEq E]
theorem nofit_span {z : Int} {es : List E} {lo hi : ByteArray} {S : Spn} {er : Int} (hf : fitB es = false) (h : proveSpS z es lo hi S er) : er = 1 := by
  unfold proveSpS at h; rw [hf, if_neg (by simp)] at h; exact h.1
theorem off_span {z : Int} {es : List E} {lo hi : ByteArray} {S : Spn} {er : Int} (hf : fitB es = true) (hc : ovB es[0]!.key es[es.length - 1]!.key lo hi = false) (h : proveSpS z es lo hi S er) : er = 5 := by
  unfold proveSpS at h; rw [hf, if_pos rfl, hc, if_neg (by simp)] at h; exact h.1
theorem span_small {z : Int} {es : List E} {lo hi : ByteArray} {S : Spn} {er : Int} {w : World} (hn : es.length ≤ 1000) (hS : SpnV w S) (h : proveSpS z es lo hi S er) : S.ln ≤ 1000 := by
  unfold proveSpS at h
  split at h
  · split at h
    · obtain ⟨ls, hb, -, h1, h2, h3⟩ := h
      have h4 := congrArg List.length h2
      have h5 := congrArg List.length hb
      rw [Sm.bytesL_len, List.length_map] at h5
      rw [Sm.bytesL_len, Sm.bytesL_len, hS.leaves.1] at h4
      have h6 : (Sm.partL ls (fromN lo es) (toN hi es)).length ≤ ls.length := by
        unfold Sm.partL
        rw [List.length_take, List.length_drop]
        omega
      omega
    · rw [h.2]; show 0 ≤ 1000; omega
  · rw [h.2]; show 0 ≤ 1000; omega
set_option maxRecDepth 100000 in
set_option maxHeartbeats 8000000 in
theorem back_walk (ao : Option Addr) (n c : Nat) (es : List E) (z : Int) (key hi : ByteArray) (w : World) (hE : EntsV w ao n es) (hsm : Small es) (hnc : n ≤ c) (hc : c ≤ 9223372036854775807) (hz : -9223372036854775808 ≤ z ∧ z ≤ 9223372036854775807) (hK : Sm.WW w 1 Sm.ks) (hz0 : 1 < w.heap.size) :
    Calls Tryd.prog 5 #[.slice ao n c, .int .i64 z, .string key, .string hi] w fun e w' => e = .returned (.bool true) ∧ Below w.heap.size w w' := by
  go_enter Tryd.func5, Tryd.ntmps5
  go_wp2_with fail
  refine (shown12_any w hK hz0).mono ?_
  rintro e w1 ⟨rfl, hb1⟩
  go_wp2_with fail
  refine (fit4_any ao n c es w1 (hE.below hb1 (Nat.le_refl _)) hsm (by omega)).mono ?_
  rintro e w2 ⟨v2, rfl, hown2, hb2⟩
  have hl2 := fitS_len es
  have hf2 := fitS_fit es
  obtain ⟨fs, HF⟩ : ∃ fs, Hid (fitS es = fs) := ⟨_, rfl⟩
  rw [HF.out] at hown2 hl2 hf2
  obtain ⟨ao2, c2, rfl, hE2, hlow2⟩ := own_entsL hown2 rfl
  have HB2 : Hid (Below w.heap.size w w2) := hb1.trans (hb2.mono hb1.size)
  obtain ⟨l, HL⟩ : ∃ l, Hid (fs.length = l) := ⟨_, rfl⟩
  rw [HL.out] at hE2 hl2 hf2 ⊢
  have hsm2 : Small fs := by rw [← HF.out]; exact right_small (fitS_right es)
  have HV : Hid (∀ V, Below w2.heap.size w2 V → EntsV V ao2 l fs ∧ (∀ x, ao2 = some x → x.block < V.heap.size) ∧ Sm.WW V 1 Sm.ks ∧ 1 < V.heap.size ∧ Below w.heap.size w V) := fun V hV =>
    ⟨hE2.below hV (Nat.le_refl _), fun x hx => Nat.lt_of_lt_of_le (hlow2 x hx) hV.size, (hK.below HB2.out hz0).below hV (Nat.lt_of_lt_of_le hz0 HB2.out.size), Nat.lt_of_lt_of_le hz0 (Nat.le_trans HB2.out.size hV.size), HB2.out.trans (hV.mono HB2.out.size)⟩
  have HSM : Hid (Small fs ∧ l ≤ 64) := ⟨hsm2, hl2⟩
  have HZ0 : Hid _ := hz
  clear hb1 hb2 hE hsm hown2 hE2 hlow2 hK hz0 hnc hc hsm2 hl2 hz
  go_upto_region 4 with (refine wpList_store_row rfl 26 (.tmp 10) (.tmp 30) rfl w2.heap.size #[.int .i64 z] rfl rfl 26 #[.int .i64 0] (heap_alloc_new _ _) size26 rfl (by simp [Value.oneCell']) ?_)
  generalize hW3 : World.setRow _ _ _ = W3
  have HR3 : Hid _ := stored hW3
  have HV3 : Hid _ := HV.out W3 HR3.out.2.1
  clear hW3
  go_wp2_with (refine wpList_load_row rfl 26 (.tmp 10) rfl w2.heap.size rfl 26 #[.int .i64 z] (0, 0) _ HR3.out.1 Tryd.underlying26 rfl size26 ?_)
  have HPS : Hid (∀ V, Below w2.heap.size w2 V → Calls Tryd.prog 14 #[.agg #[.int .i64 z], .slice ao2 l c2, .string key, .string hi] V fun e w' => ∃ S er, e = .returned (.tuple #[.agg S.cells, .int .i64 er]) ∧ SpnV w' S ∧ proveSpS z fs key hi S er ∧ Below V.heap.size V w') := fun V hV => proveSpan_any z ao2 l c2 fs key hi V (HV.out V hV).1 HSM.out.1 (by have := HSM.out.2; omega) (HV.out V hV).2.2.1 (HV.out V hV).2.2.2.1 HZ0.out
  have HPV : Hid (∀ V, Below w2.heap.size w2 V → Calls Tryd.prog 12 #[.agg #[.int .i64 z], .slice ao2 l c2, .string key] V fun e w' => ∃ bt A B er, e = .returned (.tuple #[.agg (pointC bt A B), .int .i64 er]) ∧ OpnV w' A ∧ OpnV w' B ∧ proveS z fs key bt A B er ∧ Below V.heap.size V w') := fun V hV => prove_any z ao2 l c2 fs key V (HV.out V hV).1 HSM.out.1 (by have := HSM.out.2; omega) (HV.out V hV).2.2.1 (HV.out V hV).2.2.2.1 HZ0.out
  by_cases h0 : l = 0
  · have hff : fitB fs = false := by unfold fitB; rw [decide_eq_false (by have := HL.out; omega)]; rfl
    have HFF : Hid _ := hff
    refine Calls.mono (describe_wrong z 1 ao2 l c2 fs W3 HV3.out.1 HSM.out.1 (by omega) (by rw [hff]; simp)) ?_
    rintro e w4 ⟨rfl, hb4⟩
    have HB4 : Hid (Below W3.heap.size W3 w4) := hb4
    have HH0 : Hid (l = 0) := h0
    clear hb4 hff h0 hf2
    go_upto_region 5 with (refine wpList_store_row rfl 48 (.tmp 11) (.tmp 35) rfl w4.heap.size zeroT rfl rfl 48 zeroT (heap_alloc_new _ _) (by rw [size48]; rfl) rfl (tabC_all _ _ _ _ _) ?_)
    generalize hW5 : World.setRow _ _ _ = W5
    have HR5 : Hid _ := stored hW5
    have HB5 : Hid (Below W3.heap.size W3 W5) := HB4.out.trans (HR5.out.2.1.mono HB4.out.size)
    have HB52 : Hid (Below w2.heap.size w2 W5) := HR3.out.2.1.trans (HB5.out.mono (by have := HR3.out.2.2; omega))
    have HQ5 : Hid (W5.heap[w2.heap.size]? = some (.cells #[.int .i64 z] 26 (0, 0))) := (HB5.out.block _ (by have := HR3.out.2.2; omega)).trans HR3.out.1
    clear hW5
    go_wp2_with (refine wpList_load_row rfl 26 (.tmp 10) rfl w2.heap.size rfl 26 #[.int .i64 z] (0, 0) _ HQ5.out Tryd.underlying26 rfl size26 ?_)
    refine Calls.mono (HPV.out W5 HB52.out) ?_
    rintro e w6 ⟨bt, ⟨a, lo, ln, lc, bs, po, pn, pc, ds⟩, ⟨a2, lo2, ln2, lc2, bs2, po2, pn2, pc2, ds2⟩, er, rfl, -, -, hps, hb6⟩
    obtain rfl := nofit_prove HFF.out hps
    have HB6 : Hid (Below W5.heap.size W5 w6) := hb6
    clear hps hb6
    simp only [pointC]
    go_upto_region 6 with (refine wpList_store_row rfl 32 (.tmp 13) (.tmp 42) rfl w6.heap.size #[.bool bt, .int .i64 a, .slice lo ln lc, .slice po pn pc, .int .i64 a2, .slice lo2 ln2 lc2, .slice po2 pn2 pc2] rfl rfl 32 zeroP (heap_alloc_new w6 _) size32 rfl (one7 _ _ _ _ _ _ _ _ _ _ _ _ _ _ _) ?_)
    generalize hW7 : World.setRow _ _ _ = W7
    have HR7 : Hid _ := stored hW7
    have HB72 : Hid (Below w2.heap.size w2 W7) := HB52.out.trans ((HB6.out.trans (HR7.out.2.1.mono HB6.out.size)).mono HB52.out.size)
    have HQ7 : Hid (W7.heap[w2.heap.size]? = some (.cells #[.int .i64 z] 26 (0, 0))) := ((HB6.out.trans (HR7.out.2.1.mono HB6.out.size)).block _ (by have h1 := HR3.out.2.2; have h2 := HB5.out.size; omega)).trans HQ5.out
    clear hW7
    go_wp2_with (refine wpList_load_row rfl 26 (.tmp 10) rfl w2.heap.size rfl 26 #[.int .i64 z] (0, 0) _ HQ7.out Tryd.underlying26 rfl size26 ?_)
    refine Calls.mono (HPS.out W7 HB72.out) ?_
    rintro e w8 ⟨⟨frm, slo, sln, slc, sls, spo, spn, spc, sds⟩, er, rfl, -, hps, hb8⟩
    obtain rfl := nofit_span HFF.out hps
    have HB8 : Hid (Below W7.heap.size W7 w8) := hb8
    clear hps hb8
    simp only [Spn.cells]
    go_upto_region 7 with (refine wpList_store_row rfl 39 (.tmp 15) (.tmp 50) rfl w8.heap.size #[.int .i64 frm, .slice slo sln slc, .slice spo spn spc] rfl rfl 39 zeroSC (heap_alloc_new w8 _) size39 rfl (one3 _ _ _ _ _ _ _) ?_)
    generalize hW9 : World.setRow _ _ _ = W9
    have HR9 : Hid _ := stored hW9
    have HB9 : Hid (Below w.heap.size w W9) := (HV.out W9 (HB72.out.trans ((HB8.out.trans (HR9.out.2.1.mono HB8.out.size)).mono HB72.out.size))).2.2.2.2
    clear hW9
    have h0 := HH0.out
    subst h0
    go_wp2
    go_ret
    exact ⟨rfl, HB9.out⟩
  · have hff : fitB fs = true := hf2 (by omega)
    have HFF : Hid _ := hff
    have HL0 : Hid (0 < l ∧ l ≤ 64) := ⟨by omega, HSM.out.2⟩
    obtain ⟨b, off, hao, -⟩ := HV3.out.1.2 (by omega)
    subst hao
    have hds := describe_some z 1 b off l c2 fs W3 HV3.out.1 hff (by omega) HV3.out.2.2.1 HV3.out.2.2.2.1 HZ0.out (HV3.out.2.1 _ rfl)
    have hpc := fun (bt : Bool) (A B : Opn) (er : Int) h1 h3 => prove_checks (z := z) (es := fs) (key := key) (bt := bt) (A := A) (B := B) (er := er) hff h1 h3
    have hop := fun (bt : Bool) (A B : Opn) (er : Int) h1 h3 => off_prove (z := z) (es := fs) (key := key) (bt := bt) (A := A) (B := B) (er := er) hff h1 h3
    have hsc := fun (S : Spn) (er : Int) h1 h3 => span_checks (z := z) (es := fs) (lo := key) (hi := hi) (S := S) (er := er) hff h1 h3
    have hos := fun (S : Spn) (er : Int) h1 h3 => off_span (z := z) (es := fs) (lo := key) (hi := hi) (S := S) (er := er) hff h1 h3
    have hcv := fun W => covers_any (tabC 1 (fs.length : Int) (Sm.rootD z (fs.map bytesB)) fs[0]!.key fs[fs.length - 1]!.key) fs[0]!.key fs[fs.length - 1]!.key key W (tabC_at _ _ (Sm.rootD_length _ _) _ _).2.2.1 (tabC_at _ _ (Sm.rootD_length _ _) _ _).2.2.2
    have hov := fun W => overlaps_any (tabC 1 (fs.length : Int) (Sm.rootD z (fs.map bytesB)) fs[0]!.key fs[fs.length - 1]!.key) fs[0]!.key fs[fs.length - 1]!.key key hi W (tabC_at _ _ (Sm.rootD_length _ _) _ _).2.2.1 (tabC_at _ _ (Sm.rootD_length _ _) _ _).2.2.2
    obtain ⟨d, HD⟩ : ∃ d, Hid (Sm.rootD z (fs.map bytesB) = d) := ⟨_, rfl⟩
    have HDL : Hid (d.length = 32) := by show _ = _; rw [← HD.out]; exact Sm.rootD_length _ _
    obtain ⟨k1, HK1⟩ : ∃ k, Hid (fs[0]!.key = k) := ⟨_, rfl⟩
    obtain ⟨k2, HK2⟩ : ∃ k, Hid (fs[fs.length - 1]!.key = k) := ⟨_, rfl⟩
    rw [HD.out, HK1.out, HK2.out, HL.out] at hds hpc hsc hcv hov
    rw [HK1.out, HK2.out] at hop hos
    obtain ⟨cv, HCC⟩ : ∃ x, Hid (covB k1 k2 key = x) := ⟨_, rfl⟩
    obtain ⟨ov, HOO⟩ : ∃ x, Hid (ovB k1 k2 key hi = x) := ⟨_, rfl⟩
    rw [HCC.out] at hpc hop hcv
    rw [HOO.out] at hsc hos hov
    obtain ⟨kk, HKK⟩ : ∃ k, Hid (tabC 1 (l : Int) d k1 k2 = k) := ⟨_, rfl⟩
    have HKS : Hid (kk.size = 36) := by show _ = _; rw [← HKK.out]; exact tabC_size _ _ HDL.out _ _
    have HKA : Hid (kk.all (·.oneCell') = true) := by show _ = _; rw [← HKK.out]; exact tabC_all _ _ _ _ _
    have HZ : Hid ((zeroT).size = 36) := tabC_size 0 0 (by simp) _ _
    rw [HKK.out] at hds hcv hov
    have HPC : Hid _ := hpc
    have HOP : Hid _ := hop
    have HSC : Hid _ := hsc
    have HOS : Hid _ := hos
    have HCV : Hid _ := hcv
    have HOV : Hid _ := hov
    refine Calls.mono hds ?_
    rintro e w4 ⟨rfl, hb4⟩
    have HB4 : Hid (Below W3.heap.size W3 w4) := hb4
    clear hb4 hff h0 hf2 hds hpc hop hsc hos hcv hov
    go_upto_region 5 with (refine wpList_store_row rfl 48 (.tmp 11) (.tmp 35) rfl w4.heap.size kk rfl rfl 48 zeroT (heap_alloc_new _ _) (by rw [size48, HKS.out]) (by rw [HKS.out, HZ.out]) HKA.out ?_)
    generalize hW5 : World.setRow _ _ _ = W5
    have HR5 : Hid _ := stored hW5
    have HB5 : Hid (Below W3.heap.size W3 W5) := HB4.out.trans (HR5.out.2.1.mono HB4.out.size)
    have HB52 : Hid (Below w2.heap.size w2 W5) := HR3.out.2.1.trans (HB5.out.mono (by have := HR3.out.2.2; omega))
    have HQ5 : Hid (W5.heap[w2.heap.size]? = some (.cells #[.int .i64 z] 26 (0, 0))) := (HB5.out.block _ (by have := HR3.out.2.2; omega)).trans HR3.out.1
    clear hW5
    go_wp2_with (refine wpList_load_row rfl 26 (.tmp 10) rfl w2.heap.size rfl 26 #[.int .i64 z] (0, 0) _ HQ5.out Tryd.underlying26 rfl size26 ?_)
    refine Calls.mono (HPV.out W5 HB52.out) ?_
    rintro e w6 ⟨bt, ⟨a, lo, ln, lc, bs, po, pn, pc, ds⟩, ⟨a2, lo2, ln2, lc2, bs2, po2, pn2, pc2, ds2⟩, er, rfl, hA, hB, hps, hb6⟩
    have HB6 : Hid (Below W5.heap.size W5 w6) := hb6
    have HAB : Hid _ := And.intro hA hB
    have HP1 : Hid (er = if cv = true then 0 else 5) := by
      show _ = _
      by_cases h : cv = true
      · rw [if_pos h]; exact (HPC.out _ _ _ _ h hps).1
      · rw [if_neg h]; exact HOP.out _ _ _ _ (by simpa using h) hps
    have HP2 : Hid (cv = true → _) := fun h => (HPC.out _ _ _ _ h hps).2
    clear hps hb6 hA hB HPC HOP HPV
    simp only [pointC]
    go_upto_region 6 with (refine wpList_store_row rfl 32 (.tmp 13) (.tmp 42) rfl w6.heap.size #[.bool bt, .int .i64 a, .slice lo ln lc, .slice po pn pc, .int .i64 a2, .slice lo2 ln2 lc2, .slice po2 pn2 pc2] rfl rfl 32 zeroP (heap_alloc_new w6 _) size32 rfl (one7 _ _ _ _ _ _ _ _ _ _ _ _ _ _ _) ?_)
    generalize hW7 : World.setRow _ _ _ = W7
    have HR7 : Hid _ := stored hW7
    have HB57 : Hid (Below W5.heap.size W5 W7) := HB6.out.trans (HR7.out.2.1.mono HB6.out.size)
    have HB72 : Hid (Below w2.heap.size w2 W7) := HB52.out.trans (HB57.out.mono HB52.out.size)
    have HK7 : Hid (W7.heap[w4.heap.size]? = some (.cells kk 48 (0, 0))) := (HB57.out.block _ (by have := HR5.out.2.2; omega)).trans HR5.out.1
    have HQ7 : Hid (W7.heap[w2.heap.size]? = some (.cells #[.int .i64 z] 26 (0, 0))) := (HB57.out.block _ (by have h1 := HR3.out.2.2; have h2 := HB5.out.size; omega)).trans HQ5.out
    have HO7 : Hid _ := And.intro (HAB.out.1.keep HR7.out.2.1) (HAB.out.2.keep HR7.out.2.1)
    clear hW7
    go_wp2_with (refine wpList_load_row rfl 26 (.tmp 10) rfl w2.heap.size rfl 26 #[.int .i64 z] (0, 0) _ HQ7.out Tryd.underlying26 rfl size26 ?_)
    refine Calls.mono (HPS.out W7 HB72.out) ?_
    rintro e w8 ⟨⟨frm, slo, sln, slc, sls, spo, spn, spc, sds⟩, er2, rfl, hS, hps, hb8⟩
    have HB8 : Hid (Below W7.heap.size W7 w8) := hb8
    have HSV : Hid _ := hS
    have HS1 : Hid (er2 = if ov = true then 0 else 5) := by
      show _ = _
      by_cases h : ov = true
      · rw [if_pos h]; exact (HSC.out _ _ h hps).1
      · rw [if_neg h]; exact HOS.out _ _ (by simpa using h) hps
    have HS2 : Hid (ov = true → _) := fun h => (HSC.out _ _ h hps).2
    have HSN : Hid (sln ≤ 1000) := span_small (by rw [HL.out]; have := HL0.out; omega) hS hps
    clear hps hb8 hS HSC HOS HPS
    simp only [Spn.cells]
    go_upto_region 7 with (refine wpList_store_row rfl 39 (.tmp 15) (.tmp 50) rfl w8.heap.size #[.int .i64 frm, .slice slo sln slc, .slice spo spn spc] rfl rfl 39 zeroSC (heap_alloc_new w8 _) size39 rfl (one3 _ _ _ _ _ _ _) ?_)
    generalize hW9 : World.setRow _ _ _ = W9
    have HR9 : Hid _ := stored hW9
    have HB79 : Hid (Below W7.heap.size W7 W9) := HB8.out.trans (HR9.out.2.1.mono HB8.out.size)
    have HB92 : Hid (Below w2.heap.size w2 W9) := HB72.out.trans (HB79.out.mono HB72.out.size)
    have HK9 : Hid (W9.heap[w4.heap.size]? = some (.cells kk 48 (0, 0))) := (HB79.out.block _ (Array.getElem?_eq_some_iff.1 HK7.out).1).trans HK7.out
    have HQ9 : Hid (W9.heap[w2.heap.size]? = some (.cells #[.int .i64 z] 26 (0, 0))) := (HB79.out.block _ (Array.getElem?_eq_some_iff.1 HQ7.out).1).trans HQ7.out
    have HP9 : Hid (W9.heap[w6.heap.size]? = some (.cells #[.bool bt, .int .i64 a, .slice lo ln lc, .slice po pn pc, .int .i64 a2, .slice lo2 ln2 lc2, .slice po2 pn2 pc2] 32 (0, 0))) := (HB79.out.block _ (Array.getElem?_eq_some_iff.1 HR7.out.1).1).trans HR7.out.1
    have HO9 : Hid _ := And.intro (HO7.out.1.keep HB79.out) (HO7.out.2.keep HB79.out)
    have HSV9 : Hid _ := HSV.out.keep HR9.out.2.1
    have HRW : Hid (∀ V, Below W9.heap.size W9 V → V.heap[w4.heap.size]? = some (.cells kk 48 (0, 0)) ∧ V.heap[w2.heap.size]? = some (.cells #[.int .i64 z] 26 (0, 0)) ∧ V.heap[w6.heap.size]? = some (.cells #[.bool bt, .int .i64 a, .slice lo ln lc, .slice po pn pc, .int .i64 a2, .slice lo2 ln2 lc2, .slice po2 pn2 pc2] 32 (0, 0)) ∧ V.heap[w8.heap.size]? = some (.cells #[.int .i64 frm, .slice slo sln slc, .slice spo spn spc] 39 (0, 0)) ∧ Below w2.heap.size w2 V) := fun V hV =>
      ⟨(hV.block _ (Array.getElem?_eq_some_iff.1 HK9.out).1).trans HK9.out, (hV.block _ (Array.getElem?_eq_some_iff.1 HQ9.out).1).trans HQ9.out, (hV.block _ (Array.getElem?_eq_some_iff.1 HP9.out).1).trans HP9.out, (hV.block _ (Array.getElem?_eq_some_iff.1 HR9.out.1).1).trans HR9.out.1, HB92.out.trans (hV.mono HB92.out.size)⟩
    clear hW9 HQ9 HP9 HR9 HSV HO7 HAB HR7 HQ7 HK7 HQ5 HR5 HR3 HB79 HB8 HB72 HB57 HB6 HB5 HB52 HB4 HV3
    have hlz : ¬ (l : Int) = 0 := by have := HL0.out; omega
    go_upto_region 9 with fail
    go_cut [82] (fun s wx => s = .bool false ∧ Hid (Below W9.heap.size W9 wx))
    case first =>
      as_aux_lemma =>
        have HX : Hid _ := HRW.out W9 (Below.refl _ _)
        clear HP2 HS2
        go_wp2_with (refine wpList_load_row rfl 48 (.tmp 11) rfl w4.heap.size rfl 48 kk (0, 0) _ HX.out.1 Tryd.underlying48 rfl (by rw [size48, HKS.out]) ?_)
        refine Calls.mono (HCV.out W9) ?_
        rintro e w10 ⟨rfl, hb10⟩
        have HB10 : Hid (Below W9.heap.size W9 w10) := hb10
        have HX10 : Hid _ := HRW.out w10 HB10.out
        clear hb10
        cases cv with
        | false =>
          have her : er = 5 := HP1.out
          subst her
          go_wp2_with (refine Sm.wpList_load_rowG (by rfl) 48 (.tmp 11) rfl w4.heap.size rfl 48 kk (0, 0) _ HX10.out.1 Tryd.underlying48 rfl (by rw [size48, HKS.out]) ?_)
          refine Calls.mono (HOV.out w10) ?_
          rintro e w11 ⟨rfl, hb11⟩
          have HB11 : Hid (Below W9.heap.size W9 w11) := HB10.out.trans (hb11.mono HB10.out.size)
          clear hb11
          cases ov with
          | false =>
            have her2 : er2 = 5 := HS1.out
            subst her2
            go_wp2
            go_meet
            case rel => exact ⟨rfl, HB11.out⟩
          | true =>
            have her2 : er2 = 0 := HS1.out
            subst her2
            go_wp2
            go_meet
            case rel => exact ⟨rfl, HB11.out⟩
        | true =>
          have her : er = 0 := HP1.out
          subst her
          go_wp2_with (refine Sm.wpList_load_rowG (by rfl) 48 (.tmp 11) rfl w4.heap.size rfl 48 kk (0, 0) _ HX10.out.1 Tryd.underlying48 rfl (by rw [size48, HKS.out]) ?_)
          refine Calls.mono (HOV.out w10) ?_
          rintro e w11 ⟨rfl, hb11⟩
          have HB11 : Hid (Below W9.heap.size W9 w11) := HB10.out.trans (hb11.mono HB10.out.size)
          clear hb11
          cases ov with
          | false =>
            have her2 : er2 = 5 := HS1.out
            subst her2
            go_wp2
            go_meet
            case rel => exact ⟨rfl, HB11.out⟩
          | true =>
            have her2 : er2 = 0 := HS1.out
            subst her2
            go_wp2
            go_meet
            case rel => exact ⟨rfl, HB11.out⟩
    case rest =>
      as_aux_lemma =>
        obtain ⟨rfl, HBX⟩ := hcut
        go_upto_if 84 with fail
        go_cut [9] (fun s wx => s = .bool true ∧ Hid (Below W9.heap.size W9 wx))
        case first =>
          as_aux_lemma =>
            cases cv with
            | false =>
              have her : er = 5 := HP1.out
              subst her
              go_wp2_with fail
              go_meet
              case rel => exact ⟨rfl, HBX.out⟩
            | true =>
              have her : er = 0 := HP1.out
              subst her
              have HXP : Hid _ := HP2.out rfl
              clear HP1 HP2 HS2 HCV HOV
              go_wp2_with fail
              refine Calls.mono (find_any (some ⟨b, off, none⟩) l c2 fs key _ (HV.out _ (HRW.out _ HBX.out).2.2.2.2).1 (by have := HL0.out; omega)) ?_
              rintro e w12 ⟨rfl, hb12⟩
              have HB12 : Hid (Below W9.heap.size W9 w12) := HBX.out.trans (hb12.mono HBX.out.size)
              have HX12 : Hid _ := HRW.out w12 HB12.out
              have HKB : Hid (isIn key fs = true → belowN key fs < l) := fun h => by rw [← HL.out]; exact isIn_below h
              have HCK : Hid (∀ R, (if isIn key fs = true then some fs[belowN key fs]! else none) = R → Calls Tryd.prog 23 #[.agg #[.int .i64 z], .agg kk, .string key, .agg #[.bool bt, .int .i64 a, .slice lo ln lc, .slice po pn pc, .int .i64 a2, .slice lo2 ln2 lc2, .slice po2 pn2 pc2]] w12 fun e w' => e = .returned (chkV (some R)) ∧ Below w12.heap.size w12 w') := fun R hR => by
                have h := check12_any z 1 (l : Int) d k1 k2 key bt ⟨a, lo, ln, lc, bs, po, pn, pc, ds⟩ ⟨a2, lo2, ln2, lc2, bs2, po2, pn2, pc2, ds2⟩ w12 HDL.out (by have := HL0.out; omega) (HO9.out.1.keep HB12.out) (HO9.out.2.keep HB12.out) (HV.out w12 HX12.out.2.2.2.2).2.2.1 (HV.out w12 HX12.out.2.2.2.2).2.2.2.1 HZ0.out
                rw [HKK.out, HXP.out, hR] at h
                exact h
              have HE12 : Hid _ := (HV.out w12 HX12.out.2.2.2.2).1
              clear hb12 HXP
              obtain ⟨bn, HBN⟩ : ∃ x, Hid (belowN key fs = x) := ⟨_, rfl⟩
              obtain ⟨ii, HII⟩ : ∃ x, Hid (isIn key fs = x) := ⟨_, rfl⟩
              rw [HBN.out, HII.out] at HKB
              rw [HBN.out, HII.out] at HCK
              rw [HBN.out, HII.out]
              cases ii with
              | false =>
                have HC2 : Hid _ := HCK.out none rfl
                clear HCK
                go_upto_region 13 with fail
                go_wp2_with (first | (refine wpList_load_row rfl 26 (.tmp 10) rfl w2.heap.size rfl 26 #[.int .i64 z] (0, 0) _ HX12.out.2.1 Tryd.underlying26 rfl size26 ?_) | (refine wpList_load_row rfl 48 (.tmp 11) rfl w4.heap.size rfl 48 kk (0, 0) _ HX12.out.1 Tryd.underlying48 rfl (by rw [size48, HKS.out]) ?_) | (refine wpList_load_row rfl 32 (.tmp 13) rfl w6.heap.size rfl 32 #[.bool bt, .int .i64 a, .slice lo ln lc, .slice po pn pc, .int .i64 a2, .slice lo2 ln2 lc2, .slice po2 pn2 pc2] (0, 0) _ HX12.out.2.2.1 Tryd.underlying32 rfl size32 ?_))
                refine Calls.mono HC2.out ?_
                rintro e w13 ⟨rfl, hb13⟩
                simp only [chkV, encE]
                have HB13 : Hid (Below W9.heap.size W9 w13) := HB12.out.trans (hb13.mono HB12.out.size)
                clear hb13 HC2
                go_upto_region 14 with (refine wpList_store_row rfl 54 (.tmp 19) (.tmp 97) rfl w13.heap.size #[.string zeroE.key, .string zeroE.value, .bool zeroE.del, .int .i64 zeroE.seq] rfl rfl 54 #[.string ⟨#[]⟩, .string ⟨#[]⟩, .bool false, .int .i64 0] (heap_alloc_new w13 _) size54 rfl (one4 _ _ _ _) ?_)
                generalize hW14 : World.setRow _ _ _ = W14
                have HB14 : Hid (Below W9.heap.size W9 W14) := HB13.out.trans ((stored hW14).2.1.mono HB13.out.size)
                clear hW14
                go_quiet (fail)
                go_wp2
                go_meet
                case rel => exact ⟨rfl, bel_drewN HB14.out nq⟩
              | true =>
                obtain ⟨k0, v0, d0, q0, HX⟩ : ∃ k0 v0 d0 q0, Hid (fs[bn]! = E.mk k0 v0 d0 q0) := ⟨_, _, _, _, rfl⟩
                have HC2 : Hid _ := HCK.out (some ⟨k0, v0, d0, q0⟩) (by rw [if_pos rfl, HX.out])
                have hbl : bn < l := HKB.out rfl
                have HBLZ : Hid (¬ (l : Int) ≤ (bn : Int)) := by show ¬ _; omega
                have hblz : ¬ (l : Int) ≤ (bn : Int) := HBLZ.out
                clear HCK HKB
                go_upto_region 13 with fail
                go_wp2_with (first | (refine wpList_load_row rfl 26 (.tmp 10) rfl w2.heap.size rfl 26 #[.int .i64 z] (0, 0) _ HX12.out.2.1 Tryd.underlying26 rfl size26 ?_) | (refine wpList_load_row rfl 48 (.tmp 11) rfl w4.heap.size rfl 48 kk (0, 0) _ HX12.out.1 Tryd.underlying48 rfl (by rw [size48, HKS.out]) ?_) | (refine wpList_load_row rfl 32 (.tmp 13) rfl w6.heap.size rfl 32 #[.bool bt, .int .i64 a, .slice lo ln lc, .slice po pn pc, .int .i64 a2, .slice lo2 ln2 lc2, .slice po2 pn2 pc2] (0, 0) _ HX12.out.2.2.1 Tryd.underlying32 rfl size32 ?_))
                refine Calls.mono HC2.out ?_
                rintro e w13 ⟨rfl, hb13⟩
                simp only [chkV, encE]
                have HB13 : Hid (Below W9.heap.size W9 w13) := HB12.out.trans (hb13.mono HB12.out.size)
                clear hb13 HC2
                go_upto_region 14 with (refine wpList_store_row rfl 54 (.tmp 19) (.tmp 97) rfl w13.heap.size #[.string k0, .string v0, .bool d0, .int .i64 q0] rfl rfl 54 #[.string ⟨#[]⟩, .string ⟨#[]⟩, .bool false, .int .i64 0] (heap_alloc_new w13 _) size54 rfl (one4 _ _ _ _) ?_)
                generalize hW14 : World.setRow _ _ _ = W14
                have HR14 : Hid _ := stored hW14
                have HB14 : Hid (Below W9.heap.size W9 W14) := HB13.out.trans (HR14.out.2.1.mono HB13.out.size)
                have hrow := HR14.out.1
                have x0 : W14.cell? ⟨w13.heap.size, 0, none⟩ = some (.string k0) := by rw [cell_of_row _ _ _ _ _ _ hrow]; rfl
                have x1 : W14.cell? ⟨w13.heap.size, 1, none⟩ = some (.string v0) := by rw [cell_of_row _ _ _ _ _ _ hrow]; rfl
                have x2 : W14.cell? ⟨w13.heap.size, 2, none⟩ = some (.bool d0) := by rw [cell_of_row _ _ _ _ _ _ hrow]; rfl
                have x3 : W14.cell? ⟨w13.heap.size, 3, none⟩ = some (.int .i64 q0) := by rw [cell_of_row _ _ _ _ _ _ hrow]; rfl
                obtain ⟨bl, ol, hal, hEnl⟩ := ((HV.out W14 (HRW.out W14 HB14.out).2.2.2.2).1).2 (by omega)
                obtain ⟨y0, y1, y2, y3⟩ := ents_four hEnl bn (by rw [HL.out]; omega) HX.out
                cases hal
                have heq := fun w => equal23 k0 v0 d0 q0 k0 v0 d0 q0 w
                simp only [decide_true] at heq
                have hgd := guard23
                have hge : decide ((l : Int) ≤ (bn : Int)) = false := decide_eq_false (by have := HBLZ.out; omega)
                clear hW14 hrow hEnl
                go_quiet (fail)
                go_wp2
                go_meet
                case rel => exact ⟨rfl, bel_drewN HB14.out nq⟩
        case rest =>
          as_aux_lemma =>
            obtain ⟨rfl, HBY⟩ := hcut
            cases ov with
            | false =>
              have her2 : er2 = 5 := HS1.out
              subst her2
              have HBZ : Hid _ := (HV.out _ (HRW.out _ HBY.out).2.2.2.2).2.2.2.2
              go_wp2
              go_ret
              exact ⟨rfl, HBZ.out⟩
            | true =>
              have her2 : er2 = 0 := HS1.out
              subst her2
              have HSP : Hid _ := HS2.out rfl
              obtain ⟨i0, hi0, hz0, hz1, hz2⟩ := info_parts info23
              have HX15 : Hid _ := HRW.out _ HBY.out
              have hnil := eq_nil hi
              have HEL : Hid _ := (HV.out _ HX15.out.2.2.2.2).1
              have HLN : Hid (fs.length = l) := HL.out
              clear HP1 HP2 HS1 HS2 HCV HOV
              go_wp2
              go_loopw [22, 23] (fun o x wr => ∃ i : Nat, x = .int .i64 i ∧ i ≤ l ∧ wr.ownsRow wc.heap.size 54 4 o (withB key hi (fs.take i)).length (flatE (withB key hi (fs.take i))) ∧ Below wc.heap.size wc wr) (fun _ x _ => l - (intOf x).toNat)
              case atStart => exact ⟨0, rfl, by omega, by simpa [withB, flatE] using World.ownsRow_nil _ _ _ _, Below.refl _ _⟩
              case round =>
                obtain ⟨i, rfl, hil, hown, hbel⟩ := hrel
                have hdl := withB_len key hi fs i
                have HSN0 : Hid (i < l → ∀ e, fs[i]! = e → withB key hi (fs.take (i + 1)) = withB key hi (fs.take i) ++ (if inB key hi e = true then [e] else [])) := fun h e he => withB_snoc key hi fs i (by rw [HLN.out]; exact h) e he
                have HALL : Hid (l ≤ i → withB key hi fs = withB key hi (fs.take i)) := fun h => by rw [List.take_of_length_le (by rw [HLN.out]; exact h)]
                obtain ⟨done, HDN⟩ : ∃ d, Hid (withB key hi (fs.take i) = d) := ⟨_, rfl⟩
                rw [HDN.out] at hown hdl HSN0 HALL
                obtain ⟨aod, cd, hvd, hEd⟩ := own_entsV hown rfl
                subst hvd
                obtain ⟨dl, HDLN⟩ : ∃ d, Hid (done.length = d) := ⟨_, rfl⟩
                rw [HDLN.out] at hown hdl hEd
                rw [HDLN.out]
                have HO : Hid _ := And.intro hown hbel
                have HEDV : Hid _ := hEd
                have HDM : Hid (dl ≤ 1000) := by show _ ≤ _; have := HL0.out; omega
                have HWI : Hid (wrap64 ((i : Int) + 1) = ((i + 1 : Nat) : Int)) := by show _ = _; have := HL0.out; unfold wrap64; omega
                have HBA : Hid (Below W9.heap.size W9 wr) := HBY.out.trans (hbel.mono HBY.out.size)
                clear hown hbel hEd hdl
                by_cases hlt : i < l
                · have hltz : (i : Int) < (l : Int) := by omega
                  have HNX : Hid (i + 1 ≤ l) := by show _ ≤ _; omega
                  obtain ⟨bl, ol, hal, hEnl⟩ := HEL.out.2 (by omega)
                  obtain ⟨k0, v0, d0, q0, HX⟩ : ∃ k0 v0 d0 q0, Hid (fs[i]! = E.mk k0 v0 d0 q0) := ⟨_, _, _, _, rfl⟩
                  obtain ⟨c0, c1', c2', c3⟩ := ents_four (hEnl.below HO.out.2 (Nat.le_refl _)) i (by rw [HLN.out]; omega) HX.out
                  cases hal
                  have HSN : Hid _ := HSN0.out hlt _ HX.out
                  have HIB : Hid (∀ x y, decide (cmpS key k0 ≤ 0) = x → belB k0 hi = y → withB key hi (fs.take (i + 1)) = done ++ (if (x && y) = true then [⟨k0, v0, d0, q0⟩] else [])) := fun x y h1 h2 => by rw [HSN.out]; unfold inB; rw [h1, h2]
                  have hlk := less_cmpS k0 key
                  have hlh := less_cmpS k0 hi
                  clear hEnl HSN0 HSN
                  cases hg : Op.bytesLess k0.toList key.toList with
                  | true =>
                    have HS2 : Hid _ := HIB.out false _ (by rw [hg] at hlk; have h1 := of_decide_eq_true hlk.symm; exact decide_eq_false (fun h => by have := (cmpS_ord.anti k0 key).1 h1; omega)) rfl
                    clear hlk hlh hnil HIB
                    go_wp2
                    go_roundw
                    case rel => exact ⟨i + 1, by rw [HWI.out], HNX.out, by rw [HS2.out, if_neg (by simp), List.append_nil, HDLN.out]; exact HO.out.1, HO.out.2⟩
                    case measure => (rw [HWI.out]; simp only [intOf]; omega)
                  | false =>
                    have HGE : Hid (decide (cmpS key k0 ≤ 0) = true) := by show _ = _; rw [hg] at hlk; have h1 := of_decide_eq_false hlk.symm; exact decide_eq_true (by have := cmpS_ord.anti k0 key; omega)
                    clear hlk
                    by_cases he : hi = ByteArray.empty
                    · have e2 : (hi.toList == []) = true := by rw [hnil]; exact decide_eq_true he
                      have HS2 : Hid _ := HIB.out true true HGE.out (by unfold belB; rw [decide_eq_true he]; rfl)
                      clear hnil hlh he HIB HGE
                      have HOA : Hid ((wr.alloc (Obj.cells #[.string k0, .string v0, .bool d0, .int .i64 q0] 54)).ownsRow wc.heap.size 54 4 (.slice aod dl cd) dl (flatE done)) := HO.out.1.alloc _
                      have HCA : Hid (∀ j u, (encE (E.mk k0 v0 d0 q0))[j]? = some u → (wr.alloc (Obj.cells #[.string k0, .string v0, .bool d0, .int .i64 q0] 54)).cell? ((⟨wr.heap.size, 0, none⟩ : Addr).add j) = some u) := ent_laid wr k0 v0 d0 q0
                      have HBB : Hid (wc.heap.size ≤ (wr.alloc (Obj.cells #[.string k0, .string v0, .bool d0, .int .i64 q0] 54)).heap.size) := by show _ ≤ _; have := HO.out.2.size; simp; omega
                      go_wp2_with (at_builtin; refine wpList_append_own _ rfl (.tmp 153) (.tmp 158) 22 rfl wc.heap.size 54 i0 _ 4 48 Tryd.underlying22 hi0 hz0 hz1 hz2 rfl (by decide) _ dl (flatE done) rfl HOA.out ⟨wr.heap.size, 0, none⟩ 1 1 (encE (E.mk k0 v0 d0 q0)) rfl rfl HCA.out (encE_one _) (by have := HDM.out; unfold maxLen; omega) (by have := HDM.out; omega) HBB.out ?_)
                      intro v' w6 hown6 hgr6 _
                      have hbel6 : Below wc.heap.size wc w6 := (HO.out.2.alloc HO.out.2.size _).trans ((Below.refl _ _).grown hgr6 HBB.out (fun k hk => (HOA.out.lt k hk).1))
                      clear hgr6 HOA HCA
                      have HN : Hid _ := And.intro hown6 hbel6
                      clear hown6 hbel6
                      go_wp2
                      go_roundw
                      case rel =>
                        refine ⟨i + 1, by rw [HWI.out], HNX.out, ?_, HN.out.2⟩
                        rw [HS2.out, if_pos (by simp), flatE_append, List.length_append, HDLN.out]
                        simpa [flatE] using HN.out.1
                      case measure => (rw [HWI.out]; simp only [intOf]; omega)
                    · have e2 : (hi.toList == []) = false := by rw [hnil]; exact decide_eq_false he
                      cases hh : Op.bytesLess k0.toList hi.toList with
                      | false =>
                        have HS2 : Hid _ := HIB.out true false HGE.out (by unfold belB; rw [decide_eq_false he, Bool.false_or]; rw [hh] at hlh; exact hlh.symm)
                        clear hnil hlh he HIB HGE
                        go_wp2
                        go_roundw
                        case rel => exact ⟨i + 1, by rw [HWI.out], HNX.out, by rw [HS2.out, if_neg (by simp), List.append_nil, HDLN.out]; exact HO.out.1, HO.out.2⟩
                        case measure => (rw [HWI.out]; simp only [intOf]; omega)
                      | true =>
                        have HS2 : Hid _ := HIB.out true true HGE.out (by unfold belB; rw [decide_eq_false he, Bool.false_or]; rw [hh] at hlh; exact hlh.symm)
                        clear hnil hlh he HIB HGE
                        have HOA : Hid ((wr.alloc (Obj.cells #[.string k0, .string v0, .bool d0, .int .i64 q0] 54)).ownsRow wc.heap.size 54 4 (.slice aod dl cd) dl (flatE done)) := HO.out.1.alloc _
                        have HCA : Hid (∀ j u, (encE (E.mk k0 v0 d0 q0))[j]? = some u → (wr.alloc (Obj.cells #[.string k0, .string v0, .bool d0, .int .i64 q0] 54)).cell? ((⟨wr.heap.size, 0, none⟩ : Addr).add j) = some u) := ent_laid wr k0 v0 d0 q0
                        have HBB : Hid (wc.heap.size ≤ (wr.alloc (Obj.cells #[.string k0, .string v0, .bool d0, .int .i64 q0] 54)).heap.size) := by show _ ≤ _; have := HO.out.2.size; simp; omega
                        go_wp2_with (at_builtin; refine wpList_append_own _ rfl (.tmp 153) (.tmp 158) 22 rfl wc.heap.size 54 i0 _ 4 48 Tryd.underlying22 hi0 hz0 hz1 hz2 rfl (by decide) _ dl (flatE done) rfl HOA.out ⟨wr.heap.size, 0, none⟩ 1 1 (encE (E.mk k0 v0 d0 q0)) rfl rfl HCA.out (encE_one _) (by have := HDM.out; unfold maxLen; omega) (by have := HDM.out; omega) HBB.out ?_)
                        intro v' w6 hown6 hgr6 _
                        have hbel6 : Below wc.heap.size wc w6 := (HO.out.2.alloc HO.out.2.size _).trans ((Below.refl _ _).grown hgr6 HBB.out (fun k hk => (HOA.out.lt k hk).1))
                        clear hgr6 HOA HCA
                        have HN : Hid _ := And.intro hown6 hbel6
                        clear hown6 hbel6
                        go_wp2
                        go_roundw
                        case rel =>
                          refine ⟨i + 1, by rw [HWI.out], HNX.out, ?_, HN.out.2⟩
                          rw [HS2.out, if_pos (by simp), flatE_append, List.length_append, HDLN.out]
                          simpa [flatE] using HN.out.1
                        case measure => (rw [HWI.out]; simp only [intOf]; omega)
                · have hltz : ¬ (i : Int) < (l : Int) := by omega
                  have HF : Hid _ := HALL.out (by omega)
                  have HXR : Hid _ := HRW.out wr HBA.out
                  have HVR : Hid _ := HV.out wr HXR.out.2.2.2.2
                  have HCS : Hid _ := checkSpan_any z 1 (l : Int) d k1 k2 key hi ⟨frm, slo, sln, slc, sls, spo, spn, spc, sds⟩ wr HDL.out (by have := HL0.out; omega) (HSV9.out.keep HBA.out) HSN.out HVR.out.2.2.1 HVR.out.2.2.2.1 HZ0.out
                  have HCS2 : Hid (Calls Tryd.prog 26 #[.agg #[.int .i64 z], .agg kk, .string key, .string hi, .agg #[.int .i64 frm, .slice slo sln slc, .slice spo spn spc]] wr fun e w' => ∃ v', e = .returned (.tuple #[v', .int .i64 0]) ∧ w'.ownsRow wr.heap.size 54 4 v' (withB key hi fs).length (flatE (withB key hi fs)) ∧ Below wr.heap.size wr w') := by
                    have h := HCS.out
                    rw [HKK.out, HSP.out] at h
                    refine Calls.mono h ?_
                    rintro e w' ⟨v', er, rfl, ⟨her, hrow⟩, hb⟩
                    have her' : er = 0 := her
                    subst her'
                    exact ⟨v', rfl, hrow, hb⟩
                  clear HCS hnil HALL HSN0
                  go_upto_region 24 with fail
                  go_wp2_with (first | (refine wpList_load_row rfl 26 (.tmp 10) rfl w2.heap.size rfl 26 #[.int .i64 z] (0, 0) _ HXR.out.2.1 Tryd.underlying26 rfl size26 ?_) | (refine wpList_load_row rfl 48 (.tmp 11) rfl w4.heap.size rfl 48 kk (0, 0) _ HXR.out.1 Tryd.underlying48 rfl (by rw [size48, HKS.out]) ?_) | (refine wpList_load_row rfl 39 (.tmp 15) rfl w8.heap.size rfl 39 #[.int .i64 frm, .slice slo sln slc, .slice spo spn spc] (0, 0) _ HXR.out.2.2.2.1 Tryd.underlying39 rfl size39 ?_))
                  refine Calls.mono HCS2.out ?_
                  rintro e w20 ⟨v20, rfl, hown20, hb20⟩
                  obtain ⟨ao20, c20, rfl, hE20⟩ := own_entsV hown20 rfl
                  have hsame := same_any ao20 (withB key hi fs).length c20 (withB key hi fs) aod dl cd done w20 hE20 (EntsV.below HEDV.out hb20 (Nat.le_refl _)) (by rw [HF.out, HDLN.out]; have := HDM.out; omega) (by have := HDM.out; omega)
                  rw [HF.out, decide_eq_true rfl, HDLN.out] at hsame
                  rw [HF.out, HDLN.out]
                  have HSA : Hid _ := hsame
                  have HBZ : Hid (Below w.heap.size w w20) := HVR.out.2.2.2.2.trans (hb20.mono HVR.out.2.2.2.2.size)
                  clear hsame hE20 hown20 hb20 HCS2 HEDV
                  go_wp2_with fail
                  refine Calls.mono HSA.out ?_
                  rintro e w21 ⟨rfl, hb21⟩
                  have HBZ2 : Hid (Below w.heap.size w w21) := HBZ.out.trans (hb21.mono HBZ.out.size)
                  clear hb21
                  go_wp2
                  go_ret
                  exact ⟨rfl, HBZ2.out⟩
end Go.Proofs.YtecacjddggljgaaDoor
