/-
  The span of all keys is all that a table has: what the law SeekWhole answers, for any arguments.
-/
import Derived.Test.YtecacjddggljgaaDoorPartDG
import Derived.BigQuiet
namespace Go.Proofs.YtecacjddggljgaaDoor
open Go.RowKit Go.Sort Go.Shelf
set_option linter.unusedSectionVars false
variable [Inhabited E] [DecidableEq E]
set_option maxRecDepth 100000 in
set_option maxHeartbeats 8000000 in
theorem whole_walk (ao : Option Addr) (n c : Nat) (es : List E) (z : Int) (w : World) (hE : EntsV w ao n es) (hsm : Small es) (hnc : n ≤ c) (hc : c ≤ 9223372036854775807) (hz : -9223372036854775808 ≤ z ∧ z ≤ 9223372036854775807) (hK : Sm.WW w 1 Sm.ks) (hz0 : 1 < w.heap.size) :
    Calls Tryd.prog 9 #[.slice ao n c, .int .i64 z] w fun e w' => e = .returned (.bool true) ∧ Below w.heap.size w w' := by
  go_enter Tryd.func9, Tryd.ntmps9
  go_wp2_with fail
  refine (shown12_any w hK hz0).mono ?_
  rintro e w1 ⟨rfl, hb1⟩
  go_wp2_with fail
  refine (fit4_any ao n c es w1 (hE.below hb1 (Nat.le_refl _)) hsm (by omega)).mono ?_
  rintro e w2 ⟨v2, rfl, hown2, hb2⟩
  have hl2 := fitS_len es
  have hf2 := fitS_fit es
  obtain ⟨fs, HF⟩ : ∃ fs, Hid (fitS es = fs) := ⟨_, rfl⟩
  rw [HF.out] at hown2 hl2 hf2
  obtain ⟨ao2, c2, rfl, hE2, hlow2⟩ := own_entsL hown2 rfl
  have HB2 : Hid (Below w.heap.size w w2) := hb1.trans (hb2.mono hb1.size)
  obtain ⟨l, HL⟩ : ∃ l, Hid (fs.length = l) := ⟨_, rfl⟩
  rw [HL.out] at hE2 hl2 hf2 ⊢
  have hsm2 : Small fs := by rw [← HF.out]; exact right_small (fitS_right es)
  have HV : Hid (∀ V, Below w2.heap.size w2 V → EntsV V ao2 l fs ∧ (∀ x, ao2 = some x → x.block < V.heap.size) ∧ Sm.WW V 1 Sm.ks ∧ 1 < V.heap.size ∧ Below w.heap.size w V) := fun V hV =>
    ⟨hE2.below hV (Nat.le_refl _), fun x hx => Nat.lt_of_lt_of_le (hlow2 x hx) hV.size, (hK.below HB2.out hz0).below hV (Nat.lt_of_lt_of_le hz0 HB2.out.size), Nat.lt_of_lt_of_le hz0 (Nat.le_trans HB2.out.size hV.size), HB2.out.trans (hV.mono HB2.out.size)⟩
  have HSM : Hid (Small fs ∧ l ≤ 64) := ⟨hsm2, hl2⟩
  have HZ0 : Hid _ := hz
  clear hb1 hb2 hE hsm hown2 hE2 hlow2 hK hz0 hnc hc hsm2 hl2 hz
  go_upto_region 4 with (refine wpList_store_row rfl 26 (.tmp 6) (.tmp 18) rfl w2.heap.size #[.int .i64 z] rfl rfl 26 #[.int .i64 0] (heap_alloc_new _ _) size26 rfl (by simp [Value.oneCell']) ?_)
  generalize hW3 : World.setRow _ _ _ = W3
  have HR3 : Hid _ := stored hW3
  have HV3 : Hid _ := HV.out W3 HR3.out.2.1
  clear hW3
  go_wp2_with (refine wpList_load_row rfl 26 (.tmp 6) rfl w2.heap.size rfl 26 #[.int .i64 z] (0, 0) _ HR3.out.1 Tryd.underlying26 rfl size26 ?_)
  have HPV : Hid (∀ V, Below w2.heap.size w2 V → Calls Tryd.prog 14 #[.agg #[.int .i64 z], .slice ao2 l c2, .string ByteArray.empty, .string ByteArray.empty] V fun e w' => ∃ S er, e = .returned (.tuple #[.agg S.cells, .int .i64 er]) ∧ SpnV w' S ∧ proveSpS z fs ByteArray.empty ByteArray.empty S er ∧ Below V.heap.size V w') := fun V hV => proveSpan_any z ao2 l c2 fs ByteArray.empty ByteArray.empty V (HV.out V hV).1 HSM.out.1 (by have := HSM.out.2; omega) (HV.out V hV).2.2.1 (HV.out V hV).2.2.2.1 HZ0.out
  by_cases h0 : l = 0
  · have hff : fitB fs = false := by unfold fitB; rw [decide_eq_false (by have := HL.out; omega)]; rfl
    have HFF : Hid _ := hff
    refine Calls.mono (describe_wrong z 2 ao2 l c2 fs W3 HV3.out.1 HSM.out.1 (by omega) (by rw [hff]; simp)) ?_
    rintro e w4 ⟨rfl, hb4⟩
    have HB4 : Hid (Below W3.heap.size W3 w4) := hb4
    clear hb4 hff h0 hf2 HPV
    go_upto_region 5 with (refine wpList_store_row rfl 48 (.tmp 7) (.tmp 23) rfl w4.heap.size zeroT rfl rfl 48 zeroT (heap_alloc_new _ _) (by rw [size48]; rfl) rfl (tabC_all _ _ _ _ _) ?_)
    generalize hW5 : World.setRow _ _ _ = W5
    have HR5 : Hid _ := stored hW5
    have HB5 : Hid (Below W3.heap.size W3 W5) := HB4.out.trans (HR5.out.2.1.mono HB4.out.size)
    have HB52 : Hid (Below w2.heap.size w2 W5) := HR3.out.2.1.trans (HB5.out.mono (by have := HR3.out.2.2; omega))
    have HBX : Hid _ := (HV.out W5 HB52.out).2.2.2.2
    clear hW5
    go_wp2
    go_ret
    exact ⟨rfl, HBX.out⟩
  · have hff : fitB fs = true := hf2 (by omega)
    have HFF : Hid _ := hff
    obtain ⟨b, off, hao, -⟩ := HV3.out.1.2 (by omega)
    subst hao
    have hds := describe_some z 2 b off l c2 fs W3 HV3.out.1 hff (by omega) HV3.out.2.2.1 HV3.out.2.2.2.1 HZ0.out (HV3.out.2.1 _ rfl)
    have hco := fun (S : Spn) (er : Int) (V : World) h1 h2 => whole_checks (z := z) (es := fs) (S := S) (er := er) (w := V) hff h1 h2
    obtain ⟨d, HD⟩ : ∃ d, Hid (Sm.rootD z (fs.map bytesB) = d) := ⟨_, rfl⟩
    have HDL : Hid (d.length = 32) := by show _ = _; rw [← HD.out]; exact Sm.rootD_length _ _
    obtain ⟨k1, HK1⟩ : ∃ k, Hid (fs[0]!.key = k) := ⟨_, rfl⟩
    obtain ⟨k2, HK2⟩ : ∃ k, Hid (fs[fs.length - 1]!.key = k) := ⟨_, rfl⟩
    rw [HD.out, HK1.out, HK2.out, HL.out] at hds hco
    obtain ⟨kk, HKK⟩ : ∃ k, Hid (tabC 2 (l : Int) d k1 k2 = k) := ⟨_, rfl⟩
    have HKS : Hid (kk.size = 36) := by show _ = _; rw [← HKK.out]; exact tabC_size _ _ HDL.out _ _
    have HKA : Hid (kk.all (·.oneCell') = true) := by show _ = _; rw [← HKK.out]; exact tabC_all _ _ _ _ _
    have HZ : Hid ((zeroT).size = 36) := tabC_size 0 0 (by simp) _ _
    rw [HKK.out] at hds
    have HCO : Hid _ := hco
    refine Calls.mono hds ?_
    rintro e w4 ⟨rfl, hb4⟩
    have HB4 : Hid (Below W3.heap.size W3 w4) := hb4
    clear hb4 hff h0 hf2 hds hco
    go_upto_region 5 with (refine wpList_store_row rfl 48 (.tmp 7) (.tmp 23) rfl w4.heap.size kk rfl rfl 48 zeroT (heap_alloc_new _ _) (by rw [size48, HKS.out]) (by rw [HKS.out, HZ.out]) HKA.out ?_)
    generalize hW5 : World.setRow _ _ _ = W5
    have HR5 : Hid _ := stored hW5
    have HB5 : Hid (Below W3.heap.size W3 W5) := HB4.out.trans (HR5.out.2.1.mono HB4.out.size)
    have HB52 : Hid (Below w2.heap.size w2 W5) := HR3.out.2.1.trans (HB5.out.mono (by have := HR3.out.2.2; omega))
    have HQ5 : Hid (W5.heap[w2.heap.size]? = some (.cells #[.int .i64 z] 26 (0, 0))) := (HB5.out.block _ (by have := HR3.out.2.2; omega)).trans HR3.out.1
    clear hW5
    go_wp2_with (refine wpList_load_row rfl 26 (.tmp 6) rfl w2.heap.size rfl 26 #[.int .i64 z] (0, 0) _ HQ5.out Tryd.underlying26 rfl size26 ?_)
    refine Calls.mono (HPV.out W5 HB52.out) ?_
    rintro e w6 ⟨⟨frm, slo, sln, slc, sls, spo, spn, spc, sds⟩, er, rfl, hS, hps, hb6⟩
    obtain ⟨rfl, hfrm, hsln, hspn, hspo⟩ := HCO.out _ _ _ hS hps
    have hfrm' : frm = 0 := hfrm
    have hspn' : spn = 0 := hspn
    have hsln' : sln = l := hsln
    subst hfrm' hspn' hsln'
    have HB6 : Hid (Below W5.heap.size W5 w6) := hb6
    have HSV : Hid _ := hS
    have HSO : Hid _ := hspo
    clear hps hb6 hS hfrm hspn hsln hspo HCO HPV
    simp only [Spn.cells]
    go_upto_region 8 with (refine wpList_store_row rfl 39 (.tmp 9) (.tmp 32) rfl w6.heap.size #[.int .i64 0, .slice slo sln slc, .slice spo 0 spc] rfl rfl 39 zeroSC (heap_alloc_new w6 _) size39 rfl (one3 _ _ _ _ _ _ _) ?_)
    generalize hW7 : World.setRow _ _ _ = W7
    have HR7 : Hid _ := stored hW7
    have HB7 : Hid (Below W5.heap.size W5 W7) := HB6.out.trans (HR7.out.2.1.mono HB6.out.size)
    have HB72 : Hid (Below w2.heap.size w2 W7) := HB52.out.trans (HB7.out.mono HB52.out.size)
    have HK7 : Hid (W7.heap[w4.heap.size]? = some (.cells kk 48 (0, 0))) := (HB7.out.block _ (by have := HR5.out.2.2; omega)).trans HR5.out.1
    have HQ7 : Hid (W7.heap[w2.heap.size]? = some (.cells #[.int .i64 z] 26 (0, 0))) := (HB7.out.block _ (by have h1 := HR3.out.2.2; have h2 := HB5.out.size; omega)).trans HQ5.out
    have HCS : Hid _ := checkSpan_any z 2 (sln : Int) d k1 k2 ByteArray.empty ByteArray.empty ⟨0, slo, sln, slc, sls, spo, 0, spc, sds⟩ W7 HDL.out (by have := HSM.out.2; omega) (HSV.out.keep HR7.out.2.1) (by have := HSM.out.2; show sln ≤ _; omega) (HV.out W7 HB72.out).2.2.1 (HV.out W7 HB72.out).2.2.2.1 HZ0.out
    clear hW7
    have HCS2 : Hid (Calls Tryd.prog 26 #[.agg #[.int .i64 z], .agg kk, .string ByteArray.empty, .string ByteArray.empty, .agg #[.int .i64 0, .slice slo sln slc, .slice spo 0 spc]] W7 fun e w' => ∃ v', e = .returned (.tuple #[v', .int .i64 0]) ∧ w'.ownsRow W7.heap.size 54 4 v' fs.length (flatE fs) ∧ Below W7.heap.size W7 w') := by
      have h := HCS.out
      rw [HKK.out, HSO.out] at h
      refine Calls.mono h ?_
      rintro e w' ⟨v', er, rfl, ⟨her, hrow⟩, hb⟩
      have her' : er = 0 := her
      subst her'
      exact ⟨v', rfl, hrow, hb⟩
    clear HCS
    go_wp2_with (first | (refine wpList_load_row rfl 26 (.tmp 6) rfl w2.heap.size rfl 26 #[.int .i64 z] (0, 0) _ HQ7.out Tryd.underlying26 rfl size26 ?_) | (refine wpList_load_row rfl 48 (.tmp 7) rfl w4.heap.size rfl 48 kk (0, 0) _ HK7.out Tryd.underlying48 rfl (by rw [size48, HKS.out]) ?_) | (refine wpList_load_row rfl 39 (.tmp 9) rfl w6.heap.size rfl 39 #[.int .i64 0, .slice slo sln slc, .slice spo 0 spc] (0, 0) _ HR7.out.1 Tryd.underlying39 rfl size39 ?_))
    refine Calls.mono HCS2.out ?_
    rintro e w9 ⟨v9, rfl, hown9, hb9⟩
    obtain ⟨ao9, c9, hv9, hE9⟩ := own_entsV hown9 rfl
    rw [HL.out] at hv9 hE9
    subst hv9
    have hrow : w9.heap[w6.heap.size]? = some (.cells #[.int .i64 0, .slice slo sln slc, .slice spo 0 spc] 39 (0, 0)) := (hb9.block _ (by have := HR7.out.2.2; omega)).trans HR7.out.1
    have s0 : w9.cell? ⟨w6.heap.size, 0, none⟩ = some (.int .i64 0) := by rw [cell_of_row _ _ _ _ _ _ hrow]; rfl
    have s1 : w9.cell? ⟨w6.heap.size, 1, none⟩ = some (.slice slo sln slc) := by rw [cell_of_row _ _ _ _ _ _ hrow]; rfl
    have s2 : w9.cell? ⟨w6.heap.size, 2, none⟩ = some (.slice spo 0 spc) := by rw [cell_of_row _ _ _ _ _ _ hrow]; rfl
    have HB9 : Hid (Below w2.heap.size w2 w9) := HB72.out.trans (hb9.mono HB72.out.size)
    have HE9 : Hid _ := hE9
    have HEL : Hid _ := (HV.out w9 HB9.out).1
    have HBW : Hid _ := (HV.out w9 HB9.out).2.2.2.2
    have HL64 : Hid (sln ≤ 64) := HSM.out.2
    have HLN : Hid (fs.length = sln) := HL.out
    clear hb9 hown9 hE9 hrow HCS2 HQ7 HK7 HR7 HSO HSV
    go_wp2
    go_loopw [13] (fun x wr => ∃ i : Nat, x = .int .i64 i ∧ i ≤ sln ∧ Below w9.heap.size w9 wr) (fun x _ => sln - (intOf x).toNat)
    case atStart => exact ⟨0, rfl, by omega, Below.refl _ _⟩
    case round =>
      obtain ⟨i, rfl, hil, hbel⟩ := hrel
      have HBE : Hid _ := hbel
      have HWI : Hid (wrap64 ((i : Int) + 1) = ((i + 1 : Nat) : Int)) := by show _ = _; have := HL64.out; unfold wrap64; omega
      by_cases hlt : i < sln
      · have hltz : (i : Int) < (sln : Int) := by omega
        obtain ⟨b9, o9, ha9, hEn9⟩ := HE9.out.2 (by omega)
        obtain ⟨bl, ol, hal, hEnl⟩ := HEL.out.2 (by omega)
        have hE1 := hEn9.below hbel (Nat.le_refl _)
        have hE2 := hEnl.below hbel (Nat.le_refl _)
        obtain ⟨k0, v0, d0, q0, HX⟩ : ∃ k0 v0 d0 q0, Hid (fs[i]! = E.mk k0 v0 d0 q0) := ⟨_, _, _, _, rfl⟩
        obtain ⟨x0, x1, x2, x3⟩ := ents_four hE1 i (by rw [HLN.out]; omega) HX.out
        obtain ⟨y0, y1, y2, y3⟩ := ents_four hE2 i (by rw [HLN.out]; omega) HX.out
        cases hal
        subst ha9
        have heq := fun w => equal23 k0 v0 d0 q0 k0 v0 d0 q0 w
        simp only [decide_true] at heq
        have hgd := guard23
        clear hE1 hE2 hEn9 hEnl hbel
        go_upto_region 14 with fail
        go_quiet (fail)
        go_wp2
        go_roundw
        case rel => exact ⟨i + 1, by rw [HWI.out], by omega, bel_drewN HBE.out nq⟩
        case measure => (rw [HWI.out]; simp only [intOf]; omega)
      · have hltz : ¬ (i : Int) < (sln : Int) := by omega
        clear hbel
        go_wp2
        go_ret
        exact ⟨rfl, HBW.out.trans (HBE.out.mono HBW.out.size)⟩
end Go.Proofs.YtecacjddggljgaaDoor
