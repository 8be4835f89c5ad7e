/-
  What is proved of one key tells of another: what the law SeekOther answers, for any arguments.
-/
import Derived.Test.YtecacjddggljgaaDoorPartDC
namespace Go.Proofs.YtecacjddggljgaaDoor
open Go.RowKit Go.Sort Go.Shelf
set_option linter.unusedSectionVars false
variable [Inhabited E] [DecidableEq E]
theorem nofit_prove {z : Int} {es : List E} {key : ByteArray} {bt : Bool} {A B : Opn} {er : Int} (hf : fitB es = false) (h : proveS z es key bt A B er) : er = 1 := by
  unfold proveS at h; rw [hf, if_neg (by simp)] at h; exact h.1
theorem off_prove {z : Int} {es : List E} {key : ByteArray} {bt : Bool} {A B : Opn} {er : Int} (hf : fitB es = true) (hc : covB es[0]!.key es[es.length - 1]!.key key = false) (h : proveS z es key bt A B er) : er = 5 := by
  unfold proveS at h; rw [hf, if_pos rfl, hc, if_neg (by simp)] at h; exact h.1
theorem one_row (w : World) (z : Int) : ∀ W, (w.alloc (.cells #[.int .i64 0] 26)).setRow w.heap.size #[.int .i64 z] = W → W.heap[w.heap.size]? = some (.cells #[.int .i64 z] 26 (0, 0)) ∧ Below w.heap.size w W ∧ W.heap.size = w.heap.size + 1 := fun _ h => stored h
theorem chkV_form (R : Option (Option E)) : ∃ k v d q fd, chkV R = .tuple #[.agg #[.string k, .string v, .bool d, .int .i64 q], .bool fd, .int .i64 (if R.isSome then 0 else 8)] := by
  rcases R with _ | _ | e
  · exact ⟨_, _, _, _, _, rfl⟩
  · exact ⟨_, _, _, _, _, rfl⟩
  · exact ⟨e.key, e.value, e.del, e.seq, true, rfl⟩
theorem one4 (k v : ByteArray) (d : Bool) (q : Int) : (#[Value.string k, .string v, .bool d, .int .i64 q] : Array Value).all (·.oneCell') = true := by simp [Value.oneCell']
set_option maxRecDepth 100000 in
set_option maxHeartbeats 8000000 in
theorem other_walk (ao : Option Addr) (n c : Nat) (es : List E) (z : Int) (key other : ByteArray) (w : World) (hE : EntsV w ao n es) (hsm : Small es) (hnc : n ≤ c) (hc : c ≤ 9223372036854775807) (hz : -9223372036854775808 ≤ z ∧ z ≤ 9223372036854775807) (hK : Sm.WW w 1 Sm.ks) (hz0 : 1 < w.heap.size) :
    Calls Tryd.prog 8 #[.slice ao n c, .int .i64 z, .string key, .string other] w fun e w' => e = .returned (.bool true) ∧ Below w.heap.size w w' := by
  go_enter Tryd.func8, Tryd.ntmps8
  go_wp2_with fail
  refine (shown12_any w hK hz0).mono ?_
  rintro e w1 ⟨rfl, hb1⟩
  go_wp2_with fail
  refine (fit4_any ao n c es w1 (hE.below hb1 (Nat.le_refl _)) hsm (by omega)).mono ?_
  rintro e w2 ⟨v2, rfl, hown2, hb2⟩
  have hl2 := fitS_len es
  have hf2 := fitS_fit es
  obtain ⟨fs, HF⟩ : ∃ fs, Hid (fitS es = fs) := ⟨_, rfl⟩
  rw [HF.out] at hown2 hl2 hf2
  obtain ⟨ao2, c2, rfl, hE2, hlow2⟩ := own_entsL hown2 rfl
  have HB2 : Hid (Below w.heap.size w w2) := hb1.trans (hb2.mono hb1.size)
  obtain ⟨l, HL⟩ : ∃ l, Hid (fs.length = l) := ⟨_, rfl⟩
  rw [HL.out] at hE2 hl2 hf2 ⊢
  have hsm2 : Small fs := by rw [← HF.out]; exact right_small (fitS_right es)
  have HV : Hid (∀ V, Below w2.heap.size w2 V → EntsV V ao2 l fs ∧ (∀ x, ao2 = some x → x.block < V.heap.size) ∧ Sm.WW V 1 Sm.ks ∧ 1 < V.heap.size ∧ Below w.heap.size w V) := fun V hV =>
    ⟨hE2.below hV (Nat.le_refl _), fun x hx => Nat.lt_of_lt_of_le (hlow2 x hx) hV.size, (hK.below HB2.out hz0).below hV (Nat.lt_of_lt_of_le hz0 HB2.out.size), Nat.lt_of_lt_of_le hz0 (Nat.le_trans HB2.out.size hV.size), HB2.out.trans (hV.mono HB2.out.size)⟩
  have HSM : Hid (Small fs ∧ l ≤ 64) := ⟨hsm2, hl2⟩
  have HZ0 : Hid _ := hz
  clear hb1 hb2 hE hsm hown2 hE2 hlow2 hK hz0 hnc hc hsm2 hl2 hz
  go_upto_region 4 with (refine wpList_store_row rfl 26 (.tmp 10) (.tmp 26) rfl w2.heap.size #[.int .i64 z] rfl rfl 26 #[.int .i64 0] (heap_alloc_new _ _) size26 rfl (by simp [Value.oneCell']) ?_)
  generalize hW3 : World.setRow _ _ _ = W3
  have HR3 : Hid _ := stored hW3
  have HV3 : Hid _ := HV.out W3 HR3.out.2.1
  clear hW3
  go_wp2_with (refine wpList_load_row rfl 26 (.tmp 10) rfl w2.heap.size rfl 26 #[.int .i64 z] (0, 0) _ HR3.out.1 Tryd.underlying26 rfl size26 ?_)
  have HPV : Hid (∀ V, Below w2.heap.size w2 V → Calls Tryd.prog 12 #[.agg #[.int .i64 z], .slice ao2 l c2, .string key] V fun e w' => ∃ bt A B er, e = .returned (.tuple #[.agg (pointC bt A B), .int .i64 er]) ∧ OpnV w' A ∧ OpnV w' B ∧ proveS z fs key bt A B er ∧ Below V.heap.size V w') := fun V hV => prove_any z ao2 l c2 fs key V (HV.out V hV).1 HSM.out.1 (by have := HSM.out.2; omega) (HV.out V hV).2.2.1 (HV.out V hV).2.2.2.1 HZ0.out
  by_cases h0 : l = 0
  · have hff : fitB fs = false := by unfold fitB; rw [decide_eq_false (by have := HL.out; omega)]; rfl
    have HFF : Hid _ := hff
    refine Calls.mono (describe_wrong z 1 ao2 l c2 fs W3 HV3.out.1 HSM.out.1 (by omega) (by rw [hff]; simp)) ?_
    rintro e w4 ⟨rfl, hb4⟩
    have HB4 : Hid (Below W3.heap.size W3 w4) := hb4
    clear hb4 hff h0 hf2
    go_upto_region 5 with (refine wpList_store_row rfl 48 (.tmp 11) (.tmp 31) rfl w4.heap.size zeroT rfl rfl 48 zeroT (heap_alloc_new _ _) (by rw [size48]; rfl) rfl (tabC_all _ _ _ _ _) ?_)
    generalize hW5 : World.setRow _ _ _ = W5
    have HR5 : Hid _ := stored hW5
    have HB5 : Hid (Below W3.heap.size W3 W5) := HB4.out.trans (HR5.out.2.1.mono HB4.out.size)
    have HB52 : Hid (Below w2.heap.size w2 W5) := HR3.out.2.1.trans (HB5.out.mono (by have := HR3.out.2.2; omega))
    have HQ5 : Hid (W5.heap[w2.heap.size]? = some (.cells #[.int .i64 z] 26 (0, 0))) := (HB5.out.block _ (by have := HR3.out.2.2; omega)).trans HR3.out.1
    clear hW5
    go_wp2_with (refine wpList_load_row rfl 26 (.tmp 10) rfl w2.heap.size rfl 26 #[.int .i64 z] (0, 0) _ HQ5.out Tryd.underlying26 rfl size26 ?_)
    refine Calls.mono (HPV.out W5 HB52.out) ?_
    rintro e w6 ⟨bt, ⟨a, lo, ln, lc, bs, po, pn, pc, ds⟩, ⟨a2, lo2, ln2, lc2, bs2, po2, pn2, pc2, ds2⟩, er, rfl, -, -, hps, hb6⟩
    obtain rfl := nofit_prove HFF.out hps
    have HB6 : Hid (Below W5.heap.size W5 w6) := hb6
    clear hps hb6
    simp only [pointC]
    go_upto_region 6 with (refine wpList_store_row rfl 32 (.tmp 13) (.tmp 38) rfl w6.heap.size #[.bool bt, .int .i64 a, .slice lo ln lc, .slice po pn pc, .int .i64 a2, .slice lo2 ln2 lc2, .slice po2 pn2 pc2] rfl rfl 32 zeroP (heap_alloc_new w6 _) size32 rfl (one7 _ _ _ _ _ _ _ _ _ _ _ _ _ _ _) ?_)
    generalize hW7 : World.setRow _ _ _ = W7
    have HR7 : Hid _ := stored hW7
    have HB7 : Hid (Below w.heap.size w W7) := (HV.out W7 (HB52.out.trans ((HB6.out.trans (HR7.out.2.1.mono HB6.out.size)).mono HB52.out.size))).2.2.2.2
    clear hW7
    go_wp2
    go_ret
    exact ⟨rfl, HB7.out⟩
  · have hff : fitB fs = true := hf2 (by omega)
    have HFF : Hid _ := hff
    obtain ⟨b, off, hao, -⟩ := HV3.out.1.2 (by omega)
    subst hao
    have hds := describe_some z 1 b off l c2 fs W3 HV3.out.1 hff (by omega) HV3.out.2.2.1 HV3.out.2.2.2.1 HZ0.out (HV3.out.2.1 _ rfl)
    have hco := fun (bt : Bool) (A B : Opn) (er : Int) h1 h2 h3 => check_other (z := z) (es := fs) (key := key) (other := other) (bt := bt) (A := A) (B := B) (er := er) hff h1 h2 h3
    have hof := fun (bt : Bool) (A B : Opn) (er : Int) h1 h3 => off_prove (z := z) (es := fs) (key := key) (bt := bt) (A := A) (B := B) (er := er) hff h1 h3
    have hcv := fun W => covers_any (tabC 1 (fs.length : Int) (Sm.rootD z (fs.map bytesB)) fs[0]!.key fs[fs.length - 1]!.key) fs[0]!.key fs[fs.length - 1]!.key other W (tabC_at _ _ (Sm.rootD_length _ _) _ _).2.2.1 (tabC_at _ _ (Sm.rootD_length _ _) _ _).2.2.2
    obtain ⟨d, HD⟩ : ∃ d, Hid (Sm.rootD z (fs.map bytesB) = d) := ⟨_, rfl⟩
    have HDL : Hid (d.length = 32) := by show _ = _; rw [← HD.out]; exact Sm.rootD_length _ _
    obtain ⟨k1, HK1⟩ : ∃ k, Hid (fs[0]!.key = k) := ⟨_, rfl⟩
    obtain ⟨k2, HK2⟩ : ∃ k, Hid (fs[fs.length - 1]!.key = k) := ⟨_, rfl⟩
    rw [HD.out, HK1.out, HK2.out, HL.out] at hds hco hcv
    rw [HK1.out, HK2.out] at hof
    obtain ⟨kk, HKK⟩ : ∃ k, Hid (tabC 1 (l : Int) d k1 k2 = k) := ⟨_, rfl⟩
    have HKS : Hid (kk.size = 36) := by show _ = _; rw [← HKK.out]; exact tabC_size _ _ HDL.out _ _
    have HKA : Hid (kk.all (·.oneCell') = true) := by show _ = _; rw [← HKK.out]; exact tabC_all _ _ _ _ _
    have HZ : Hid ((zeroT).size = 36) := tabC_size 0 0 (by simp) _ _
    rw [HKK.out] at hds hcv
    have HCO : Hid _ := hco
    have HOF : Hid _ := hof
    have HCV : Hid _ := hcv
    refine Calls.mono hds ?_
    rintro e w4 ⟨rfl, hb4⟩
    have HB4 : Hid (Below W3.heap.size W3 w4) := hb4
    clear hb4 hff h0 hf2 hds hco hof hcv
    go_upto_region 5 with (refine wpList_store_row rfl 48 (.tmp 11) (.tmp 31) rfl w4.heap.size kk rfl rfl 48 zeroT (heap_alloc_new _ _) (by rw [size48, HKS.out]) (by rw [HKS.out, HZ.out]) HKA.out ?_)
    generalize hW5 : World.setRow _ _ _ = W5
    have HR5 : Hid _ := stored hW5
    have HB5 : Hid (Below W3.heap.size W3 W5) := HB4.out.trans (HR5.out.2.1.mono HB4.out.size)
    have HB52 : Hid (Below w2.heap.size w2 W5) := HR3.out.2.1.trans (HB5.out.mono (by have := HR3.out.2.2; omega))
    have HQ5 : Hid (W5.heap[w2.heap.size]? = some (.cells #[.int .i64 z] 26 (0, 0))) := (HB5.out.block _ (by have := HR3.out.2.2; omega)).trans HR3.out.1
    clear hW5
    go_wp2_with (refine wpList_load_row rfl 26 (.tmp 10) rfl w2.heap.size rfl 26 #[.int .i64 z] (0, 0) _ HQ5.out Tryd.underlying26 rfl size26 ?_)
    refine Calls.mono (HPV.out W5 HB52.out) ?_
    rintro e w6 ⟨bt, ⟨a, lo, ln, lc, bs, po, pn, pc, ds⟩, ⟨a2, lo2, ln2, lc2, bs2, po2, pn2, pc2, ds2⟩, er, rfl, hA, hB, hps, hb6⟩
    have HB6 : Hid (Below W5.heap.size W5 w6) := hb6
    have HAB : Hid _ := And.intro hA hB
    clear hb6 hA hB
    simp only [pointC]
    cases hcv1 : covB k1 k2 key with
    | false =>
      obtain rfl := HOF.out _ _ _ _ hcv1 hps
      clear hps hcv1
      go_upto_region 6 with (refine wpList_store_row rfl 32 (.tmp 13) (.tmp 38) rfl w6.heap.size #[.bool bt, .int .i64 a, .slice lo ln lc, .slice po pn pc, .int .i64 a2, .slice lo2 ln2 lc2, .slice po2 pn2 pc2] rfl rfl 32 zeroP (heap_alloc_new w6 _) size32 rfl (one7 _ _ _ _ _ _ _ _ _ _ _ _ _ _ _) ?_)
      generalize hW7 : World.setRow _ _ _ = W7
      have HR7 : Hid _ := stored hW7
      have HB7 : Hid (Below w.heap.size w W7) := (HV.out W7 (HB52.out.trans ((HB6.out.trans (HR7.out.2.1.mono HB6.out.size)).mono HB52.out.size))).2.2.2.2
      clear hW7
      go_wp2
      go_ret
      exact ⟨rfl, HB7.out⟩
    | true =>
      have HC2 : Hid (covB k1 k2 other = true → er = 0 ∧ _) := fun h => HCO.out _ _ _ _ hcv1 h hps
      have her : er = 0 := by
        have h1 := HD.out
        have h2 := hps
        unfold proveS at h2
        rw [HK1.out, HK2.out, if_pos HFF.out, if_pos hcv1] at h2
        exact h2.choose_spec.2.1
      subst her
      clear hps hcv1
      go_upto_region 6 with (refine wpList_store_row rfl 32 (.tmp 13) (.tmp 38) rfl w6.heap.size #[.bool bt, .int .i64 a, .slice lo ln lc, .slice po pn pc, .int .i64 a2, .slice lo2 ln2 lc2, .slice po2 pn2 pc2] rfl rfl 32 zeroP (heap_alloc_new w6 _) size32 rfl (one7 _ _ _ _ _ _ _ _ _ _ _ _ _ _ _) ?_)
      generalize hW7 : World.setRow _ _ _ = W7
      have HR7 : Hid _ := stored hW7
      have HB7 : Hid (Below W5.heap.size W5 W7) := HB6.out.trans (HR7.out.2.1.mono HB6.out.size)
      have HB72 : Hid (Below w2.heap.size w2 W7) := HB52.out.trans (HB7.out.mono HB52.out.size)
      have HK7 : Hid (W7.heap[w4.heap.size]? = some (.cells kk 48 (0, 0))) := (HB7.out.block _ (by have := HR5.out.2.2; omega)).trans HR5.out.1
      have HQ7 : Hid (W7.heap[w2.heap.size]? = some (.cells #[.int .i64 z] 26 (0, 0))) := (HB7.out.block _ (by have h1 := HR3.out.2.2; have h2 := HB5.out.size; omega)).trans HQ5.out
      have HO7 : Hid _ := And.intro (HAB.out.1.keep HR7.out.2.1) (HAB.out.2.keep HR7.out.2.1)
      clear hW7
      go_wp2_with (refine Sm.wpList_load_rowG (by rfl) 48 (.tmp 11) rfl w4.heap.size rfl 48 kk (0, 0) _ HK7.out Tryd.underlying48 rfl (by rw [size48, HKS.out]) ?_)
      refine Calls.mono (HCV.out W7) ?_
      rintro e w8 ⟨rfl, hb8⟩
      have HB8 : Hid (Below W7.heap.size W7 w8) := hb8
      have HB82 : Hid (Below w2.heap.size w2 w8) := HB72.out.trans (hb8.mono HB72.out.size)
      clear hb8
      cases hcv2 : covB k1 k2 other with
      | false =>
        clear hcv2
        have HBX : Hid _ := (HV.out w8 HB82.out).2.2.2.2
        go_wp2
        go_ret
        exact ⟨rfl, HBX.out⟩
      | true =>
        have HIS : Hid _ := (HC2.out hcv2).2
        clear hcv2
        go_upto_region 8 with fail
        go_wp2_with fail
        refine Calls.mono (find_any (some ⟨b, off, none⟩) l c2 fs key w8 (HV.out w8 HB82.out).1 (by have := HSM.out.2; omega)) ?_
        rintro e w9 ⟨rfl, hb9⟩
        have HB9 : Hid (Below W7.heap.size W7 w9) := HB8.out.trans (hb9.mono HB8.out.size)
        have HB92 : Hid (Below w2.heap.size w2 w9) := HB82.out.trans (hb9.mono HB82.out.size)
        clear hb9
        go_wp2_with fail
        refine Calls.mono (find_any (some ⟨b, off, none⟩) l c2 fs other w9 (HV.out w9 HB92.out).1 (by have := HSM.out.2; omega)) ?_
        rintro e w10 ⟨rfl, hb10⟩
        have HB10 : Hid (Below W7.heap.size W7 w10) := HB9.out.trans (hb10.mono HB9.out.size)
        have HB102 : Hid (Below w2.heap.size w2 w10) := HB92.out.trans (hb10.mono HB92.out.size)
        clear hb10
        have hck := check12_any z 1 (l : Int) d k1 k2 other bt ⟨a, lo, ln, lc, bs, po, pn, pc, ds⟩ ⟨a2, lo2, ln2, lc2, bs2, po2, pn2, pc2, ds2⟩ w10 HDL.out (by have := HSM.out.2; omega) (HO7.out.1.keep HB10.out) (HO7.out.2.keep HB10.out) (HV.out w10 HB102.out).2.2.1 (HV.out w10 HB102.out).2.2.2.1 HZ0.out
        obtain ⟨kv, vv, dd, qq, fd, hform⟩ := chkV_form (chkO z d (l : Int) k1 k2 other bt ⟨a, lo, ln, lc, bs, po, pn, pc, ds⟩ ⟨a2, lo2, ln2, lc2, bs2, po2, pn2, pc2, ds2⟩)
        rw [hform, HKK.out] at hck
        obtain ⟨sm, HSMM⟩ : ∃ sm, Hid ((chkO z d (l : Int) k1 k2 other bt ⟨a, lo, ln, lc, bs, po, pn, pc, ds⟩ ⟨a2, lo2, ln2, lc2, bs2, po2, pn2, pc2, ds2⟩).isSome = sm) := ⟨_, rfl⟩
        rw [HSMM.out] at hck HIS
        have HCK : Hid (Calls Tryd.prog 23 #[.agg #[.int .i64 z], .agg kk, .string other, .agg #[.bool bt, .int .i64 a, .slice lo ln lc, .slice po pn pc, .int .i64 a2, .slice lo2 ln2 lc2, .slice po2 pn2 pc2]] w10 fun e w' => e = .returned (.tuple #[.agg #[.string kv, .string vv, .bool dd, .int .i64 qq], .bool fd, .int .i64 (if sm = true then 0 else 8)]) ∧ Below w10.heap.size w10 w') := hck
        have HROW : Hid (w10.heap[w4.heap.size]? = some (.cells kk 48 (0, 0)) ∧ w10.heap[w2.heap.size]? = some (.cells #[.int .i64 z] 26 (0, 0)) ∧ w10.heap[w6.heap.size]? = some (.cells #[.bool bt, .int .i64 a, .slice lo ln lc, .slice po pn pc, .int .i64 a2, .slice lo2 ln2 lc2, .slice po2 pn2 pc2] 32 (0, 0))) :=
          ⟨(HB10.out.block _ (Array.getElem?_eq_some_iff.1 HK7.out).1).trans HK7.out, (HB10.out.block _ (Array.getElem?_eq_some_iff.1 HQ7.out).1).trans HQ7.out, (HB10.out.block _ (Array.getElem?_eq_some_iff.1 HR7.out.1).1).trans HR7.out.1⟩
        clear hck hform
        go_wp2_with (first | (refine wpList_load_row rfl 26 (.tmp 10) rfl w2.heap.size rfl 26 #[.int .i64 z] (0, 0) _ HROW.out.2.1 Tryd.underlying26 rfl size26 ?_) | (refine wpList_load_row rfl 48 (.tmp 11) rfl w4.heap.size rfl 48 kk (0, 0) _ HROW.out.1 Tryd.underlying48 rfl (by rw [size48, HKS.out]) ?_) | (refine wpList_load_row rfl 32 (.tmp 13) rfl w6.heap.size rfl 32 #[.bool bt, .int .i64 a, .slice lo ln lc, .slice po pn pc, .int .i64 a2, .slice lo2 ln2 lc2, .slice po2 pn2 pc2] (0, 0) _ HROW.out.2.2 Tryd.underlying32 rfl size32 ?_))
        refine Calls.mono HCK.out ?_
        rintro e w11 ⟨rfl, hb11⟩
        have HB11 : Hid (Below w2.heap.size w2 w11) := HB102.out.trans (hb11.mono HB102.out.size)
        clear hb11 HCK
        go_upto_region 11 with (refine wpList_store_row rfl 54 (.tmp 19) (.tmp 71) rfl w11.heap.size #[.string kv, .string vv, .bool dd, .int .i64 qq] rfl rfl 54 #[.string ⟨#[]⟩, .string ⟨#[]⟩, .bool false, .int .i64 0] (heap_alloc_new w11 _) size54 rfl (one4 _ _ _ _) ?_)
        generalize hW12 : World.setRow _ _ _ = W12
        have HBZ : Hid (Below w.heap.size w W12) := (HV.out W12 (HB11.out.trans ((stored hW12).2.1.mono HB11.out.size))).2.2.2.2
        clear hW12
        have hke := eq_cmpS key other
        obtain ⟨b1, hb1⟩ : ∃ x, decide (key = other) = x := ⟨_, rfl⟩
        obtain ⟨b2, hb2⟩ : ∃ x, isIn key fs = x := ⟨_, rfl⟩
        obtain ⟨b3, hb3⟩ : ∃ x, isIn other fs = x := ⟨_, rfl⟩
        obtain ⟨b4, hb4⟩ : ∃ x, decide (belowN key fs = belowN other fs) = x := ⟨_, rfl⟩
        have hie : (((belowN key fs : Nat) : Int) == ((belowN other fs : Nat) : Int)) = b4 := by
          rw [← hb4]
          by_cases h : belowN key fs = belowN other fs
          · rw [decide_eq_true h, h]; exact beq_self_eq_true _
          · rw [decide_eq_false h]; exact beq_eq_false_iff_ne.2 (by omega)
        rw [hb1, hb2, hb3, hb4] at HIS
        rw [hb1] at hke
        simp only [hb2, hb3]
        generalize belowN key fs = i1 at *
        generalize belowN other fs = i2 at *
        clear hb1 hb2 hb3 hb4 HCO HOF HCV HV HPV HC2
        cases sm <;> cases b1 <;> cases b2 <;> cases b3 <;> cases b4 <;> first | (exact absurd HIS.out (by decide)) | (simp only [if_true, if_false, Bool.false_eq_true]; go_wp2; go_ret; exact ⟨rfl, HBZ.out⟩)
end Go.Proofs.YtecacjddggljgaaDoor
