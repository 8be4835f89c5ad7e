/-
  What is known of a table: what the law TableKnown answers, for any arguments.
-/
import Derived.Test.YtcgjhopfdpaocaaDoorTbLv
import Derived.Test.YtcgjhopfdpaocaaDoorBackW
namespace Go.Proofs.YtcgjhopfdpaocaaDoor
open Go.RowKit Go.Sort Go.Shelf
set_option linter.unusedSectionVars false
variable [Inhabited E] [DecidableEq E]
theorem built34z : Tryd.prog.built 34 [] = some zeroT := by kernel_rfl
theorem wpList_buildG {ops : Array Oper} {rest : List Oper} {o : Oper} {a : Act} {w : World} {Q : Exit → Act → World → Prop} (hw : Region.wanted o (yielded ops a.tmps) = true) (t : TypeId) (ho : o.op = .build t #[]) (cells : Array Value) (hb : Tryd.prog.built t [] = some cells)
    (h : wpList Tryd.prog ops Q rest (a.put o.dst (.agg cells)) w) : wpList Tryd.prog ops Q (o :: rest) a w :=
  BigFrame.wpList_want hw fun K hK => by
    have hb2 : Tryd.prog.built t (#[] : Array (Nat × Value)).toList = some cells := hb
    have hr := run_build w t #[] cells hb2
    unfold Oper.wp execOp
    simp only [ho, Sem.run_bind, Sem.run_pure, List.map_toArray, List.map_nil, hr, Result.andThen_ok]
    exact hK _ _ h
set_option maxRecDepth 100000 in
set_option maxHeartbeats 4000000 in
theorem knownT_walk (ao : Option Addr) (n c : Nat) (es : List E) (lv z : Int) (w : World) (hE : EntsV w ao n es) (hsm : Small es) (hnc : n ≤ c) (hc : c ≤ 9223372036854775807) (hz : -9223372036854775808 ≤ z ∧ z ≤ 9223372036854775807) (hK : Sm.WW w 1 Sm.ks) (hz0 : 1 < w.heap.size) :
    Calls Tryd.prog 7 #[.slice ao n c, .int .i64 lv, .int .i64 z] w fun e w' => e = .returned (.bool true) ∧ Below w.heap.size w w' := by
  go_enter Tryd.func7, Tryd.ntmps7
  go_wp2_with fail
  refine (shownT_any w hK hz0).mono ?_
  rintro e w1 ⟨rfl, hb1⟩
  go_wp2_with fail
  refine (fit4_any ao n c es w1 (hE.below hb1 (Nat.le_refl _)) hsm (by omega)).mono ?_
  rintro e w2 ⟨v2, rfl, hown2, hb2⟩
  have hl2 := fitS_len es
  have hf2 := fitS_fit es
  have hrt2 := fitS_right es
  obtain ⟨fs, HF⟩ : ∃ fs, Hid (fitS es = fs) := ⟨_, rfl⟩
  rw [HF.out] at hown2 hl2 hf2 hrt2
  have HSM : Hid (Small fs) := right_small hrt2
  have hB2 : Below w.heap.size w w2 := hb1.trans (hb2.mono hb1.size)
  have HB2 : Hid (Below w.heap.size w w2) := hB2
  have HKK : Hid (∀ W, Below w.heap.size w W → Sm.WW W 1 Sm.ks ∧ 1 < W.heap.size) := fun W hW => ⟨hK.below hW hz0, Nat.lt_of_lt_of_le hz0 hW.size⟩
  obtain ⟨l, HL⟩ : ∃ l, Hid (fs.length = l) := ⟨_, rfl⟩
  rw [HL.out] at hown2 hl2 hf2
  clear hb1 hb2 hE hsm hB2 hK hz0 hrt2 hnc hc
  obtain ⟨ao2, c2, rfl, hE2, h02⟩ := own_entsV0 hown2 HL.out
  have HLOW : Hid (∀ x, ao2 = some x → x.block < w2.heap.size) := fun x hx => by
    subst hx
    exact (hown2.lt x.block rfl).2
  have HE2 : Hid (∀ W, Below w2.heap.size w2 W → EntsV W ao2 l fs) := fun W hW => hE2.below hW (Nat.le_refl _)
  have HCD : Hid (∀ W, Below w2.heap.size w2 W → Calls Tryd.prog 15 #[.agg #[.int .i64 z], .int .i64 lv, .slice ao2 l c2] W fun e w' => e = .returned (descV z lv fs) ∧ Below W.heap.size W w') := fun W hW => by
    obtain ⟨h1, h2⟩ := HKK.out W (HB2.out.trans (hW.mono HB2.out.size))
    exact describe_any z lv ao2 l c2 fs W (HE2.out W hW) HSM.out (by omega) (fun x hx => Nat.lt_of_lt_of_le (HLOW.out x hx) hW.size) h1 h2 hz
  have HZ : Hid ((zeroT).size = 36) := tabC_size 0 0 (by simp) _ _
  have hgd := guard34
  have HZZ : Hid (-9223372036854775808 ≤ z ∧ z ≤ 9223372036854775807) := hz
  have HB2x : Hid (Below w2.heap.size w2 (w2.alloc (Obj.cells #[Value.int IntKind.i64 z] 38))) := bel_alloc _ _
  have HTB : Hid ((w2.alloc (Obj.cells #[Value.int IntKind.i64 z] 38)).heap[w2.heap.size]? = some (.cells #[Value.int IntKind.i64 z] 38 (0, 0))) := World.alloc_heap_new _ _
  clear hown2 hE2 h02 hz
  by_cases hok : fitB fs = true ∧ 0 ≤ lv ∧ lv < 4
  · have HFIT : Hid (fitB fs = true) := hok.1
    have hl0 : 0 < l := by rw [← HL.out]; exact (fit_len hok.1).1
    have h0z : ((l : Int) == 0) = false := by simp; omega
    have hlv0 : ¬ lv < 0 := by omega
    have hlv3 : ¬ 3 < lv := by omega
    obtain ⟨d, HD⟩ : ∃ d, Hid (Sm.rootD z (fs.map bytesB) = d) := ⟨_, rfl⟩
    have HDL : Hid (d.length = 32) := by show _ = _; rw [← HD.out]; exact Sm.rootD_length _ _
    have hda : descV z lv fs = .tuple #[.agg (tabC lv (fs.length : Nat) d fs[0]!.key fs[fs.length - 1]!.key), .int .i64 0] := by rw [desc_fit HFIT.out hok.2, HD.out]
    obtain ⟨k1, HK1⟩ : ∃ x, Hid (fs[0]!.key = x) := ⟨_, rfl⟩
    obtain ⟨k2, HK2⟩ : ∃ x, Hid (fs[fs.length - 1]!.key = x) := ⟨_, rfl⟩
    rw [HK1.out, HK2.out, HL.out] at hda
    obtain ⟨kx, HKXE⟩ : ∃ x, Hid (tabC lv (l : Nat) d k1 k2 = x) := ⟨_, rfl⟩
    rw [HKXE.out] at hda
    have HKX : Hid (kx.size = 36) := by show _ = _; rw [← HKXE.out]; exact tabC_size _ _ HDL.out _ _
    have HAX : Hid (kx.all (·.oneCell') = true) := by show _ = _; rw [← HKXE.out]; exact tabC_all _ _ _ _ _
    obtain ⟨b2, o2, hao2, -⟩ := (HE2.out w2 (Below.refl _ _)).2 hl0
    subst hao2
    have HC1 : Hid _ := HCD.out _ HB2x.out
    rw [hda] at HC1
    clear hok hf2 hda HCD
    go_wp2_with fail
    refine Calls.mono HC1.out ?_
    rintro e w3 ⟨rfl, hb3'⟩
    have HB3 : Hid (Below w2.heap.size w2 w3) := HB2x.out.trans (hb3'.mono HB2x.out.size)
    have HT3 : Hid (w3.heap[w2.heap.size]? = some (.cells #[Value.int IntKind.i64 z] 38 (0, 0))) := (hb3'.block _ (by simp)).trans HTB.out
    have HR3 : Hid ((w3.alloc (.cells zeroT 34)).heap[w3.heap.size]? = some (.cells zeroT 34 (0, 0))) := World.alloc_heap_new _ _
    clear hb3' HC1
    go_upto_region 5 with (refine wpList_store_row rfl 34 (.tmp 9) (.tmp 26) rfl w3.heap.size kx rfl rfl 34 zeroT HR3.out (by rw [size34, HKX.out]) (by rw [HKX.out, HZ.out]) HAX.out ?_)
    generalize hX3 : World.setRow _ _ _ = X3
    have hbx3 : Below w3.heap.size w3 X3 := by rw [← hX3]; exact below_setRow (bel_alloc w3 _) (Nat.le_refl _) _
    have HX3 : Hid (X3.heap[w3.heap.size]? = some (.cells kx 34 (0, 0))) := by show _ = _; rw [← hX3]; exact setRow_heap _ _ _ _ _ _ HR3.out
    have HT4 : Hid (X3.heap[w2.heap.size]? = some (.cells #[Value.int IntKind.i64 z] 38 (0, 0))) := (hbx3.block _ (Array.getElem?_eq_some_iff.1 HT3.out).1).trans HT3.out
    have HBX3 : Hid (Below w2.heap.size w2 X3) := HB3.out.trans (hbx3.mono HB3.out.size)
    have HCL : Hid _ := leavesT_any (some ⟨b2, o2, none⟩) l c2 fs X3 (HE2.out X3 HBX3.out) HSM.out (by omega)
    clear hX3 hbx3
    go_wp2_with fail
    refine Calls.mono HCL.out ?_
    rintro e w4 ⟨v4, rfl, ls, hLO, hbs, hb4⟩
    have hll : ls.length = l := by have h := congrArg List.length hbs; rw [List.length_map, List.length_map, HL.out] at h; exact h
    have HB4 : Hid (Below w2.heap.size w2 w4) := HBX3.out.trans (hb4.mono HBX3.out.size)
    have HX4 : Hid (w4.heap[w3.heap.size]? = some (.cells kx 34 (0, 0))) := (hb4.block _ (Array.getElem?_eq_some_iff.1 HX3.out).1).trans HX3.out
    have HT5 : Hid (w4.heap[w2.heap.size]? = some (.cells #[Value.int IntKind.i64 z] 38 (0, 0))) := (hb4.block _ (Array.getElem?_eq_some_iff.1 HT4.out).1).trans HT4.out
    obtain ⟨ao4, c4, hv4, hLV, hbl⟩ := leavesO_V hLO (fun p hp => by
      have h1 : p.bs ∈ ls.map SV.bs := List.mem_map_of_mem hp
      rw [hbs] at h1
      obtain ⟨e0, -, he⟩ := List.mem_map.1 h1
      rw [← he]; exact bytesB_len3 e0)
    rw [hll] at hv4 hLV
    subst hv4
    obtain ⟨g4, o4, hao4, -⟩ := hLV.2.2.2 hl0
    subst hao4
    have HLV : Hid (∀ W, Below w4.heap.size w4 W → Sm.LeavesV W (some ⟨g4, o4, none⟩) l c4 (ls.map toLV)) := fun W hW => hLV.below hW (Nat.le_refl _)
    have HBL : Hid (Sm.bytesL (ls.map toLV) = fs.map bytesB) := by show _ = _; rw [hbl, hbs]
    have HLEAF : Hid (∀ W i, Below w4.heap.size w4 W → i < l → ∃ po pn pc, W.cell? ⟨g4, o4 + i, none⟩ = some (.slice po pn pc) ∧ Bytes W po pn (bytesB fs[i]!) ∧ pn ≤ pc ∧ pc ≤ 9223372036854775807) := fun W i hW hi => by
      have hi2 : i < ls.length := by rw [hll]; exact hi
      have hx : ls[i]? = some ls[i] := List.getElem?_eq_getElem hi2
      obtain ⟨g, o, hg, hat⟩ := (HLV.out W hW).2.2.2 hl0
      cases hg
      obtain ⟨h1, h2, h3, h4⟩ := hat i (toLV ls[i]) (by rw [List.getElem?_map, hx]; rfl)
      have hbi : (ls[i]).bs = bytesB fs[i]! := by
        have h5 := congrArg (fun t : List (List UInt8) => t[i]?) hbs
        simp only [List.getElem?_map, hx] at h5
        have h6 : i < fs.length := by rw [HL.out]; exact hi
        rw [List.getElem?_eq_getElem h6] at h5
        rw [getElem!_pos fs i h6]
        simpa using h5
      have hown := hLO.2 ls[i] (List.getElem_mem hi2)
      obtain ⟨oo, cc, hv, -, -, hle, hcm, -, -⟩ := own_bytes hown
      cases hv
      refine ⟨_, _, _, h1, ?_, hle, by unfold maxLen at hcm; exact hcm⟩
      rw [← hbi]; exact h2
    have HRT : Hid (∀ i, i < l → rightB fs[i]! = true) := fun i hi => take_right (fit_all HFIT.out) i (by rw [HL.out]; exact hi)
    clear hLO hbs hb4 hLV hbl HCL hll
    go_wp2
    go_loopw [12, 13, 14, 15] (fun x _ _ _ wr => ∃ i : Nat, x = .int .i64 i ∧ i ≤ l ∧ Hid (Below w4.heap.size w4 wr)) (fun x _ _ _ _ => l - (intOf x).toNat)
    case atStart => exact ⟨0, rfl, by omega, Below.refl _ _⟩
    case round =>
      obtain ⟨i, rfl, hil, HBr⟩ := hrel
      by_cases hlt : i < l
      · have hltz : (i : Int) < (l : Int) := by omega
        obtain ⟨po, pn, pc, hpc1, hpb, hple, hpcm⟩ := HLEAF.out wr i HBr.out hlt
        obtain ⟨k0, v0, d0, q0, HXX⟩ : ∃ k0 v0 d0 q0, Hid (fs[i]! = E.mk k0 v0 d0 q0) := ⟨_, _, _, _, rfl⟩
        have CP := parse_any po pn pc (bytesB fs[i]!) wr hpb hple hpcm
        have hpo : parseOf (bytesB fs[i]!) = some (fs[i]!, pn) := by
          have := parse_bytes fs[i]! (HRT.out i hlt) []
          rw [List.append_nil, hpb.1] at this; exact this
        rw [hpo, HXX.out] at CP
        have HCP : Hid (Calls Tryd.prog 27 #[.slice po pn pc] wr fun e w' => e = .returned (.tuple #[.agg #[.string k0, .string v0, .bool d0, .int .i64 q0], .int .i64 (pn : Nat), .int .i64 0]) ∧ Below wr.heap.size wr w') := CP
        have HPB : Hid (pn ≤ 2000) := by show _ ≤ _; rw [← hpb.1]; exact bytesB_len3 _
        have hg := guard23
        have hEQ := fun W => equal23 k0 v0 d0 q0 k0 v0 d0 q0 W
        simp only [decide_true] at hEQ
        clear CP hpo hpb hple hpcm
        go_wp2_with fail
        refine Calls.mono HCP.out ?_
        rintro e w6 ⟨rfl, hb6⟩
        have HB6 : Hid (Below w4.heap.size w4 w6) := HBr.out.trans (hb6.mono HBr.out.size)
        have HEV : Hid (EntsV w6 (some ⟨b2, o2, none⟩) l fs) := HE2.out w6 (HB4.out.trans (HB6.out.mono HB4.out.size))
        have f0 := fun o => bel_cell (bel_alloc w6 o) (Nat.le_refl _) (ents_cells HEV.out hlt HXX.out b2 o2 rfl).1
        have f1 := fun o => bel_cell (bel_alloc w6 o) (Nat.le_refl _) (ents_cells HEV.out hlt HXX.out b2 o2 rfl).2.1
        have f2 := fun o => bel_cell (bel_alloc w6 o) (Nat.le_refl _) (ents_cells HEV.out hlt HXX.out b2 o2 rfl).2.2.1
        have f3 := fun o => bel_cell (bel_alloc w6 o) (Nat.le_refl _) (ents_cells HEV.out hlt HXX.out b2 o2 rfl).2.2.2
        have f4 := fun o => bel_cell (bel_alloc w6 o) (Nat.le_refl _) (bel_cell hb6 (Nat.le_refl _) hpc1)
        clear hb6 hpc1 HCP
        go_wp2_with fail
        go_quiet (fail)
        go_wp2
        go_roundw
        case rel => exact ⟨i + 1, by go_num, by omega, bel_drewN (HB6.out.trans ((bel_alloc w6 _).mono HB6.out.size)) _⟩
        case measure => simp [intOf]; omega
      · have hltz : ¬ (i : Int) < (l : Int) := by omega
        clear hlt
        go_upto_region 14 with fail
        obtain ⟨m, hm⟩ : ∃ m, l = m + 1 := ⟨l - 1, by omega⟩
        subst hm
        have hwm : IntKind.i64.wrap (m : Int) = (m : Int) := by rw [IntKind.wrap_i64]; omega
        have hm0 : (0 : Int) ≤ (m : Int) := by omega
        have hm1 : (m : Int) < (m : Int) + 1 := by omega
        have HS : Hid (∀ W, Below wr.heap.size wr W → (W.cell? ⟨w3.heap.size, 0, none⟩ = some (.int .i64 lv) ∧ W.cell? ⟨w3.heap.size, 1, none⟩ = some (.int .i64 ((m : Int) + 1)) ∧ W.cell? ⟨w3.heap.size, 34, none⟩ = some (.string k1) ∧ W.cell? ⟨w3.heap.size, 35, none⟩ = some (.string k2)) ∧ (∀ j u, (cellsOf d)[j]? = some u → W.cell? ⟨w3.heap.size, 2 + j, none⟩ = some u) ∧ W.cell? ⟨w2.heap.size, 0, none⟩ = some (.int .i64 z) ∧ W.cell? ⟨b2, o2, none⟩ = some (.string k1) ∧ W.cell? ⟨b2, o2 + m * 4, none⟩ = some (.string k2)) := by
          intro W hW
          have hW4 : Below w4.heap.size w4 W := HBr.out.trans (hW.mono HBr.out.size)
          have hx := (hW4.block _ (Array.getElem?_eq_some_iff.1 HX4.out).1).trans HX4.out
          have ht := (hW4.block _ (Array.getElem?_eq_some_iff.1 HT5.out).1).trans HT5.out
          rw [← HKXE.out] at hx
          have hE := HE2.out W (HB4.out.trans (hW4.mono HB4.out.size))
          obtain ⟨b', o', hao, hEn⟩ := hE.2 (by omega)
          cases hao
          refine ⟨tab_cells HDL.out hx, fun j u hu => ?_, by simp [World.cell?, ht], ?_, ?_⟩
          · have hj : j < (cellsOf d).length := (List.getElem?_eq_some_iff.1 hu).1
            rw [cell_of_row _ _ _ _ _ _ hx]
            simp only [tabC, List.getElem?_toArray]
            rw [show 2 + j = j + 1 + 1 from by omega, List.getElem?_cons_succ, List.getElem?_cons_succ, List.getElem?_append_left hj, hu]
          · have := (ents_four hEn 0 (by rw [HL.out]; omega) (k := fs[0]!.key) (v := fs[0]!.value) (d := fs[0]!.del) (q := fs[0]!.seq) rfl).1
            rw [HK1.out] at this; simpa using this
          · have := (ents_four hEn m (by rw [HL.out]; omega) (k := fs[m]!.key) (v := fs[m]!.value) (d := fs[m]!.del) (q := fs[m]!.seq) rfl).1
            have h2 : fs[m]!.key = k2 := by rw [← HK2.out, HL.out]; rfl
            rw [h2] at this; exact this
        have HRT2 : Hid (∀ W, Below wr.heap.size wr W → Calls Tryd.prog 28 #[.agg #[.int .i64 z], .slice (some ⟨g4, o4, none⟩) (m + 1) c4] W fun e w' => e = .returned (.agg (cellsOf d).toArray) ∧ Below W.heap.size W w') := fun W hW => by
          have hW4 : Below w4.heap.size w4 W := HBr.out.trans (hW.mono HBr.out.size)
          obtain ⟨h1, h2⟩ := HKK.out W (HB2.out.trans ((HB4.out.trans (hW4.mono HB4.out.size)).mono HB2.out.size))
          have := Sm.root_any z HZZ.out (m + 1) (some ⟨g4, o4, none⟩) c4 _ W (HLV.out W hW4) (by omega) h1 h2
          rw [HBL.out, HD.out] at this; exact this
        have hdig := fun W => Sm.run_eq_dig d d HDL.out HDL.out W
        simp only [beq_self_eq_true] at hdig
        have hdig2 : ∀ W, (binOp .eql 32 (.agg (cellsOf d).toArray) (.agg (cellsOf d).toArray)).run Tryd.prog W = .ok (.bool true) W := hdig
        have hg24 := Sm.guard24
        have HI32 : Hid ((Tryd.prog.info? 32).map (·.size) = some (cellsOf d).length) := by show _ = _; rw [cellsOf_length, HDL.out]; exact Sm.size24
        clear hltz hil hdig
        refine wp_region_held_drew (S := fun W => (W.cell? ⟨w3.heap.size, 0, none⟩ = some (.int .i64 lv) ∧ W.cell? ⟨w3.heap.size, 1, none⟩ = some (.int .i64 ((m : Int) + 1)) ∧ W.cell? ⟨w3.heap.size, 34, none⟩ = some (.string k1) ∧ W.cell? ⟨w3.heap.size, 35, none⟩ = some (.string k2)) ∧ (∀ j u, (cellsOf d)[j]? = some u → W.cell? ⟨w3.heap.size, 2 + j, none⟩ = some u) ∧ W.cell? ⟨w2.heap.size, 0, none⟩ = some (.int .i64 z) ∧ W.cell? ⟨b2, o2, none⟩ = some (.string k1) ∧ W.cell? ⟨b2, o2 + m * 4, none⟩ = some (.string k2)) (by kernel_rfl) (HS.out _ (Below.drew (Below.refl _ _))) (fun hS => ?_)
        refine wpAnyH_take (i := 0) (v := ?_) rfl (by kernel_rfl) (by kernel_rfl) (by kernel_rfl) (fun _ _ _ h => h) (Or.inl ⟨by rfl, ?_⟩) (by assumption) ?_
        rotate_left
        · (intro w hSw; (try dsimp only at hSw); go_simp; try with_reducible rfl)
        simp only [Act.put, List.getElem_toArray, List.getElem_cons_zero, List.setIfInBounds_toArray, List.set_cons_zero, List.set_cons_succ]
        refine wpAnyH_take (i := 1) (v := ?_) rfl (by kernel_rfl) (by kernel_rfl) (by kernel_rfl) (fun _ _ _ h => h) (Or.inl ⟨by rfl, ?_⟩) (by assumption) ?_
        rotate_left
        · (intro w hSw; (try dsimp only at hSw); go_simp; try with_reducible rfl)
        simp only [Act.put, List.getElem_toArray, List.getElem_cons_zero, List.getElem_cons_succ, List.setIfInBounds_toArray, List.set_cons_zero, List.set_cons_succ]
        refine wpAnyH_take (i := 2) (v := ?_) rfl (by kernel_rfl) (by kernel_rfl) (by kernel_rfl) (fun _ _ _ h => h) (Or.inl ⟨by rfl, ?_⟩) (by assumption) ?_
        rotate_left
        · (intro w hSw; (try dsimp only at hSw); go_simp; try with_reducible rfl)
        simp only [Act.put, List.getElem_toArray, List.getElem_cons_zero, List.getElem_cons_succ, List.setIfInBounds_toArray, List.set_cons_zero, List.set_cons_succ]
        refine wpAnyH_take (i := 3) (v := ?_) rfl (by kernel_rfl) (by kernel_rfl) (by kernel_rfl) (fun _ _ _ h => h) (Or.inl ⟨by rfl, ?_⟩) (by assumption) ?_
        rotate_left
        · (intro w hSw; (try dsimp only at hSw); go_simp; try with_reducible rfl)
        simp only [Act.put, List.getElem_toArray, List.getElem_cons_zero, List.getElem_cons_succ, List.setIfInBounds_toArray, List.set_cons_zero, List.set_cons_succ]
        refine wpAnyH_take (i := 4) (v := ?_) rfl (by kernel_rfl) (by kernel_rfl) (by kernel_rfl) (fun _ _ _ h => h) (Or.inl ⟨by rfl, ?_⟩) (by assumption) ?_
        rotate_left
        · (intro w hSw; (try dsimp only at hSw); go_simp; try with_reducible rfl)
        simp only [Act.put, List.getElem_toArray, List.getElem_cons_zero, List.getElem_cons_succ, List.setIfInBounds_toArray, List.set_cons_zero, List.set_cons_succ]
        refine wpAnyH_take (i := 5) (v := ?_) rfl (by kernel_rfl) (by kernel_rfl) (by kernel_rfl) (fun _ _ _ h => h) (Or.inl ⟨by rfl, ?_⟩) (by assumption) ?_
        rotate_left
        · (intro w hSw; (try dsimp only at hSw); go_simp; try with_reducible rfl)
        simp only [Act.put, List.getElem_toArray, List.getElem_cons_zero, List.getElem_cons_succ, List.setIfInBounds_toArray, List.set_cons_zero, List.set_cons_succ]
        refine wpAnyH_take (i := 6) (v := ?_) rfl (by kernel_rfl) (by kernel_rfl) (by kernel_rfl) (fun _ _ _ h => h) (Or.inl ⟨by rfl, ?_⟩) (by assumption) ?_
        rotate_left
        · (intro w hSw; (try dsimp only at hSw); go_simp; try with_reducible rfl)
        simp only [Act.put, List.getElem_toArray, List.getElem_cons_zero, List.getElem_cons_succ, List.setIfInBounds_toArray, List.set_cons_zero, List.set_cons_succ]
        refine wpAnyH_take (i := 7) (v := ?_) rfl (by kernel_rfl) (by kernel_rfl) (by kernel_rfl) (fun _ _ _ h => h) (Or.inl ⟨by rfl, ?_⟩) (by assumption) ?_
        rotate_left
        · (intro w hSw; (try dsimp only at hSw); go_simp; try with_reducible rfl)
        simp only [Act.put, List.getElem_toArray, List.getElem_cons_zero, List.getElem_cons_succ, List.setIfInBounds_toArray, List.set_cons_zero, List.set_cons_succ]
        refine wpAnyH_take (i := 8) (v := ?_) rfl (by kernel_rfl) (by kernel_rfl) (by kernel_rfl) (fun _ _ _ h => h) (Or.inl ⟨by rfl, ?_⟩) (by assumption) ?_
        rotate_left
        · (intro w hSw; (try dsimp only at hSw); go_simp; try with_reducible rfl)
        simp only [Act.put, List.getElem_toArray, List.getElem_cons_zero, List.getElem_cons_succ, List.setIfInBounds_toArray, List.set_cons_zero, List.set_cons_succ]
        refine wpAnyH_take (i := 9) (v := ?_) rfl (by kernel_rfl) (by kernel_rfl) (by kernel_rfl) (fun _ _ _ h => h) (Or.inl ⟨by rfl, ?_⟩) (by assumption) ?_
        rotate_left
        · (intro w hSw; (try dsimp only at hSw); go_simp; try with_reducible rfl)
        simp only [Act.put, List.getElem_toArray, List.getElem_cons_zero, List.getElem_cons_succ, List.setIfInBounds_toArray, List.set_cons_zero, List.set_cons_succ]
        refine wpAnyH_take (i := 10) (v := ?_) rfl (by kernel_rfl) (by kernel_rfl) (by kernel_rfl) (fun _ _ _ h => h) (Or.inl ⟨by rfl, ?_⟩) (by assumption) ?_
        rotate_left
        · (intro w hSw; (try dsimp only at hSw); go_simp; try with_reducible rfl)
        simp only [Act.put, List.getElem_toArray, List.getElem_cons_zero, List.getElem_cons_succ, List.setIfInBounds_toArray, List.set_cons_zero, List.set_cons_succ]
        refine wpAnyH_take (i := 11) (v := ?_) rfl (by kernel_rfl) (by kernel_rfl) (by kernel_rfl) (fun _ _ _ h => h) (Or.inl ⟨by rfl, ?_⟩) (by assumption) ?_
        rotate_left
        · (intro w hSw; (try dsimp only at hSw); go_simp; try with_reducible rfl)
        simp only [Act.put, List.getElem_toArray, List.getElem_cons_zero, List.getElem_cons_succ, List.setIfInBounds_toArray, List.set_cons_zero, List.set_cons_succ]
        refine wpAnyH_take (i := 12) (v := ?_) rfl (by kernel_rfl) (by kernel_rfl) (by kernel_rfl) (fun _ _ _ h => h) (Or.inl ⟨by rfl, ?_⟩) (by assumption) ?_
        rotate_left
        · (intro w hSw; (try dsimp only at hSw); go_simp; try with_reducible rfl)
        simp only [Act.put, List.getElem_toArray, List.getElem_cons_zero, List.getElem_cons_succ, List.setIfInBounds_toArray, List.set_cons_zero, List.set_cons_succ]
        refine wpAnyH_take (i := 13) (v := ?_) rfl (by kernel_rfl) (by kernel_rfl) (by kernel_rfl) (fun _ _ _ h => h) (Or.inl ⟨by rfl, ?_⟩) (by assumption) ?_
        rotate_left
        · (intro w hSw; (try dsimp only at hSw); go_simp; try with_reducible rfl)
        simp only [Act.put, List.getElem_toArray, List.getElem_cons_zero, List.getElem_cons_succ, List.setIfInBounds_toArray, List.set_cons_zero, List.set_cons_succ]
        refine wpAnyH_take (i := 14) (v := ?_) rfl (by kernel_rfl) (by kernel_rfl) (by kernel_rfl) (fun _ _ _ h => h) (Or.inl ⟨by rfl, ?_⟩) (by assumption) ?_
        rotate_left
        · (intro w hSw; (try dsimp only at hSw); go_simp; try with_reducible rfl)
        simp only [Act.put, List.getElem_toArray, List.getElem_cons_zero, List.getElem_cons_succ, List.setIfInBounds_toArray, List.set_cons_zero, List.set_cons_succ]
        refine wpAnyH_take (i := 15) (v := ?_) rfl (by kernel_rfl) (by kernel_rfl) (by kernel_rfl) (fun _ _ _ h => h) (Or.inl ⟨by rfl, ?_⟩) (by assumption) ?_
        rotate_left
        · (intro w hSw; (try dsimp only at hSw); go_simp; try with_reducible rfl)
        simp only [Act.put, List.getElem_toArray, List.getElem_cons_zero, List.getElem_cons_succ, List.setIfInBounds_toArray, List.set_cons_zero, List.set_cons_succ]
        refine wpAnyH_take (i := 16) (v := ?_) rfl (by kernel_rfl) (by kernel_rfl) (by kernel_rfl) (fun _ _ _ h => h) (Or.inl ⟨by rfl, ?_⟩) (by assumption) ?_
        rotate_left
        · (intro w hSw; (try dsimp only at hSw); go_simp; try with_reducible rfl)
        simp only [Act.put, List.getElem_toArray, List.getElem_cons_zero, List.getElem_cons_succ, List.setIfInBounds_toArray, List.set_cons_zero, List.set_cons_succ]
        refine wpAnyH_take (i := 17) (v := ?_) rfl (by kernel_rfl) (by kernel_rfl) (by kernel_rfl) (fun _ _ _ h => h) (Or.inl ⟨by rfl, ?_⟩) (by assumption) ?_
        rotate_left
        · (intro w hSw; (try dsimp only at hSw); go_simp; try with_reducible rfl)
        simp only [Act.put, List.getElem_toArray, List.getElem_cons_zero, List.getElem_cons_succ, List.setIfInBounds_toArray, List.set_cons_zero, List.set_cons_succ]
        refine wpAnyH_take (i := 18) (v := ?_) rfl (by kernel_rfl) (by kernel_rfl) (by kernel_rfl) (fun _ _ _ h => h) (Or.inl ⟨by rfl, ?_⟩) (by assumption) ?_
        rotate_left
        · (intro w hSw; (try dsimp only at hSw); go_simp; try with_reducible rfl)
        simp only [Act.put, List.getElem_toArray, List.getElem_cons_zero, List.getElem_cons_succ, List.setIfInBounds_toArray, List.set_cons_zero, List.set_cons_succ]
        refine wpAnyH_take (i := 19) (v := ?_) rfl (by kernel_rfl) (by kernel_rfl) (by kernel_rfl) (fun _ _ _ h => h) (Or.inl ⟨by rfl, ?_⟩) (by assumption) ?_
        rotate_left
        · (intro w hSw; (try dsimp only at hSw); go_simp; try with_reducible rfl)
        simp only [Act.put, List.getElem_toArray, List.getElem_cons_zero, List.getElem_cons_succ, List.setIfInBounds_toArray, List.set_cons_zero, List.set_cons_succ]
        refine wpAnyH_take (i := 20) (v := ?_) rfl (by kernel_rfl) (by kernel_rfl) (by kernel_rfl) (fun _ _ _ h => h) (Or.inl ⟨by rfl, ?_⟩) (by assumption) ?_
        rotate_left
        · (intro w hSw; (try dsimp only at hSw); go_simp; try with_reducible rfl)
        simp only [Act.put, List.getElem_toArray, List.getElem_cons_zero, List.getElem_cons_succ, List.setIfInBounds_toArray, List.set_cons_zero, List.set_cons_succ]
        refine wpAnyH_take (i := 21) (v := ?_) rfl (by kernel_rfl) (by kernel_rfl) (by kernel_rfl) (fun _ _ _ h => h) (Or.inl ⟨by rfl, ?_⟩) (by assumption) ?_
        rotate_left
        · (intro w hSw; (try dsimp only at hSw); go_simp; try with_reducible rfl)
        simp only [Act.put, List.getElem_toArray, List.getElem_cons_zero, List.getElem_cons_succ, List.setIfInBounds_toArray, List.set_cons_zero, List.set_cons_succ]
        refine wpAnyH_take (i := 22) (v := ?_) rfl (by kernel_rfl) (by kernel_rfl) (by kernel_rfl) (fun _ _ _ h => h) (Or.inl ⟨by rfl, ?_⟩) (by assumption) ?_
        rotate_left
        · (intro w hSw; (try dsimp only at hSw); go_simp; try with_reducible rfl)
        simp only [Act.put, List.getElem_toArray, List.getElem_cons_zero, List.getElem_cons_succ, List.setIfInBounds_toArray, List.set_cons_zero, List.set_cons_succ]
        refine wpAnyH_take (i := 23) (v := ?_) rfl (by kernel_rfl) (by kernel_rfl) (by kernel_rfl) (fun _ _ _ h => h) (Or.inl ⟨by rfl, ?_⟩) (by assumption) ?_
        rotate_left
        · (intro w hSw; (try dsimp only at hSw); go_simp; try with_reducible rfl)
        simp only [Act.put, List.getElem_toArray, List.getElem_cons_zero, List.getElem_cons_succ, List.setIfInBounds_toArray, List.set_cons_zero, List.set_cons_succ]
        refine wpAnyH_take (i := 24) (v := ?_) rfl (by kernel_rfl) (by kernel_rfl) (by kernel_rfl) (fun _ _ _ h => h) (Or.inl ⟨by rfl, ?_⟩) (by assumption) ?_
        rotate_left
        · (intro w hSw; (try dsimp only at hSw); go_simp; try with_reducible rfl)
        simp only [Act.put, List.getElem_toArray, List.getElem_cons_zero, List.getElem_cons_succ, List.setIfInBounds_toArray, List.set_cons_zero, List.set_cons_succ]
        refine wpAnyH_take (i := 25) (v := ?_) rfl (by kernel_rfl) (by kernel_rfl) (by kernel_rfl) (fun _ _ _ h => h) (Or.inl ⟨by rfl, ?_⟩) (by assumption) ?_
        rotate_left
        · (intro w hSw; (try dsimp only at hSw); go_simp; try with_reducible rfl)
        simp only [Act.put, List.getElem_toArray, List.getElem_cons_zero, List.getElem_cons_succ, List.setIfInBounds_toArray, List.set_cons_zero, List.set_cons_succ]
        refine wpAnyH_take (i := 26) (v := ?_) rfl (by kernel_rfl) (by kernel_rfl) (by kernel_rfl) (fun _ _ _ h => h) (Or.inl ⟨by rfl, ?_⟩) (by assumption) ?_
        rotate_left
        · (intro w hSw; (try dsimp only at hSw); go_simp; try with_reducible rfl)
        simp only [Act.put, List.getElem_toArray, List.getElem_cons_zero, List.getElem_cons_succ, List.setIfInBounds_toArray, List.set_cons_zero, List.set_cons_succ]
        refine wpAnyH_take (i := 27) (v := ?_) rfl (by kernel_rfl) (by kernel_rfl) (by kernel_rfl) (fun _ _ _ h => h) (Or.inl ⟨by rfl, ?_⟩) (by assumption) ?_
        rotate_left
        · (intro w hSw; (try dsimp only at hSw); go_simp; try with_reducible rfl)
        simp only [Act.put, List.getElem_toArray, List.getElem_cons_zero, List.getElem_cons_succ, List.setIfInBounds_toArray, List.set_cons_zero, List.set_cons_succ]
        refine wpAnyH_take (i := 28) (v := ?_) rfl (by kernel_rfl) (by kernel_rfl) (by kernel_rfl) (fun _ _ _ h => h) (Or.inl ⟨by rfl, ?_⟩) (by assumption) ?_
        rotate_left
        · (intro w hSw; (try dsimp only at hSw); go_simp; try with_reducible rfl)
        simp only [Act.put, List.getElem_toArray, List.getElem_cons_zero, List.getElem_cons_succ, List.setIfInBounds_toArray, List.set_cons_zero, List.set_cons_succ]
        refine wpAnyH_take (i := 29) (v := ?_) rfl (by kernel_rfl) (by kernel_rfl) (by kernel_rfl) (fun _ _ _ h => h) (Or.inl ⟨by rfl, ?_⟩) (by assumption) ?_
        rotate_left
        · (intro w hSw; (try dsimp only at hSw); go_simp; try with_reducible rfl)
        simp only [Act.put, List.getElem_toArray, List.getElem_cons_zero, List.getElem_cons_succ, List.setIfInBounds_toArray, List.set_cons_zero, List.set_cons_succ]
        refine wpAnyH_take (i := 30) (v := ?_) rfl (by kernel_rfl) (by kernel_rfl) (by kernel_rfl) (fun _ _ _ h => h) (Or.inl ⟨by rfl, ?_⟩) (by assumption) ?_
        rotate_left
        · (intro w hSw; (try dsimp only at hSw); go_simp; try with_reducible rfl)
        simp only [Act.put, List.getElem_toArray, List.getElem_cons_zero, List.getElem_cons_succ, List.setIfInBounds_toArray, List.set_cons_zero, List.set_cons_succ]
        refine wpAnyH_take (i := 31) (v := ?_) rfl (by kernel_rfl) (by kernel_rfl) (by kernel_rfl) (fun _ _ _ h => h) (Or.inl ⟨by rfl, ?_⟩) (by assumption) ?_
        rotate_left
        · (intro w hSw; (try dsimp only at hSw); go_simp; try with_reducible rfl)
        simp only [Act.put, List.getElem_toArray, List.getElem_cons_zero, List.getElem_cons_succ, List.setIfInBounds_toArray, List.set_cons_zero, List.set_cons_succ]
        refine wpAnyH_take (i := 32) (v := ?_) rfl (by kernel_rfl) (by kernel_rfl) (by kernel_rfl) (fun _ _ _ h => h) (Or.inl ⟨by rfl, ?_⟩) (by assumption) ?_
        rotate_left
        · (intro w hSw; (try dsimp only at hSw); go_simp; try with_reducible rfl)
        simp only [Act.put, List.getElem_toArray, List.getElem_cons_zero, List.getElem_cons_succ, List.setIfInBounds_toArray, List.set_cons_zero, List.set_cons_succ]
        refine wpAnyH_take (i := 33) (v := ?_) rfl (by kernel_rfl) (by kernel_rfl) (by kernel_rfl) (fun _ _ _ h => h) (Or.inl ⟨by rfl, ?_⟩) (by assumption) ?_
        rotate_left
        · (intro w hSw; (try dsimp only at hSw); go_simp; try with_reducible rfl)
        simp only [Act.put, List.getElem_toArray, List.getElem_cons_zero, List.getElem_cons_succ, List.setIfInBounds_toArray, List.set_cons_zero, List.set_cons_succ]
        refine wpAnyH_take (i := 34) (v := ?_) rfl (by kernel_rfl) (by kernel_rfl) (by kernel_rfl) (fun _ _ _ h => h) (Or.inl ⟨by rfl, ?_⟩) (by assumption) ?_
        rotate_left
        · (intro w hSw; (try dsimp only at hSw); go_simp; try with_reducible rfl)
        simp only [Act.put, List.getElem_toArray, List.getElem_cons_zero, List.getElem_cons_succ, List.setIfInBounds_toArray, List.set_cons_zero, List.set_cons_succ]
        refine wpAnyH_take (i := 35) (v := ?_) rfl (by kernel_rfl) (by kernel_rfl) (by kernel_rfl) (fun _ _ _ h => h) (Or.inl ⟨by rfl, ?_⟩) (by assumption) ?_
        rotate_left
        · (intro w hSw; (try dsimp only at hSw); go_simp; try with_reducible rfl)
        simp only [Act.put, List.getElem_toArray, List.getElem_cons_zero, List.getElem_cons_succ, List.setIfInBounds_toArray, List.set_cons_zero, List.set_cons_succ]
        refine wpAnyH_take (i := 36) (v := ?_) rfl (by kernel_rfl) (by kernel_rfl) (by kernel_rfl) (fun _ _ _ h => h) (Or.inl ⟨by rfl, ?_⟩) (by assumption) ?_
        rotate_left
        · (intro w hSw; (try dsimp only at hSw); go_simp; try with_reducible rfl)
        simp only [Act.put, List.getElem_toArray, List.getElem_cons_zero, List.getElem_cons_succ, List.setIfInBounds_toArray, List.set_cons_zero, List.set_cons_succ]
        refine wpAnyH_take (i := 37) (v := ?_) rfl (by kernel_rfl) (by kernel_rfl) (by kernel_rfl) (fun _ _ _ h => h) (Or.inl ⟨by rfl, ?_⟩) (by assumption) ?_
        rotate_left
        · (intro w hSw; (try dsimp only at hSw); go_simp; try with_reducible rfl)
        simp only [Act.put, List.getElem_toArray, List.getElem_cons_zero, List.getElem_cons_succ, List.setIfInBounds_toArray, List.set_cons_zero, List.set_cons_succ]
        refine wpAnyH_take (i := 38) (v := ?_) rfl (by kernel_rfl) (by kernel_rfl) (by kernel_rfl) (fun _ _ _ h => h) (Or.inl ⟨by rfl, ?_⟩) (by assumption) ?_
        rotate_left
        · (intro w hSw; (try dsimp only at hSw); go_simp; try with_reducible rfl)
        simp only [Act.put, List.getElem_toArray, List.getElem_cons_zero, List.getElem_cons_succ, List.setIfInBounds_toArray, List.set_cons_zero, List.set_cons_succ]
        refine wpAnyH_take (i := 39) (v := ?_) rfl (by kernel_rfl) (by kernel_rfl) (by kernel_rfl) (fun _ _ _ h => h) (Or.inl ⟨by rfl, ?_⟩) (by assumption) ?_
        rotate_left
        · (intro w hSw; (try dsimp only at hSw); go_simp; try with_reducible rfl)
        simp only [Act.put, List.getElem_toArray, List.getElem_cons_zero, List.getElem_cons_succ, List.setIfInBounds_toArray, List.set_cons_zero, List.set_cons_succ]
        refine wpAnyH_take (i := 40) (v := ?_) rfl (by kernel_rfl) (by kernel_rfl) (by kernel_rfl) (fun _ _ _ h => h) (Or.inl ⟨by rfl, ?_⟩) (by assumption) ?_
        rotate_left
        · (intro w hSw; (try dsimp only at hSw); go_simp; try with_reducible rfl)
        simp only [Act.put, List.getElem_toArray, List.getElem_cons_zero, List.getElem_cons_succ, List.setIfInBounds_toArray, List.set_cons_zero, List.set_cons_succ]
        refine wpAnyH_take (i := 41) (v := .agg (cellsOf d).toArray) rfl (by kernel_rfl) (by kernel_rfl) (by kernel_rfl) (fun _ _ _ h => h) (yieldsIf_load_mid (by rfl) 32 (.tmp 125) rfl w3.heap.size 2 rfl (cellsOf d) _ (fun W hW => hW.2.1) Tryd.underlying32 rfl HI32.out) (by assumption) ?_
        simp only [Act.put, List.getElem_toArray, List.getElem_cons_zero, List.getElem_cons_succ, List.setIfInBounds_toArray, List.set_cons_zero, List.set_cons_succ]
        refine wpAnyH_take (i := 42) (v := ?_) rfl (by kernel_rfl) (by kernel_rfl) (by kernel_rfl) (fun _ _ _ h => h) (Or.inl ⟨by rfl, ?_⟩) (by assumption) ?_
        rotate_left
        · (intro w hSw; (try dsimp only at hSw); go_simp; try with_reducible rfl)
        simp only [Act.put, List.getElem_toArray, List.getElem_cons_zero, List.getElem_cons_succ, List.setIfInBounds_toArray, List.set_cons_zero, List.set_cons_succ]
        refine wpAnyH_take (i := 43) (v := ?_) rfl (by kernel_rfl) (by kernel_rfl) (by kernel_rfl) (fun _ _ _ h => h) (Or.inl ⟨by rfl, ?_⟩) (by assumption) ?_
        rotate_left
        · (intro w hSw; (try dsimp only at hSw); go_simp; try with_reducible rfl)
        simp only [Act.put, List.getElem_toArray, List.getElem_cons_zero, List.getElem_cons_succ, List.setIfInBounds_toArray, List.set_cons_zero, List.set_cons_succ]
        refine wpAnyH_ready (rs := [44]) (by kernel_rfl) (by simp) ?_
        refine AllReadyH.cons rfl (fun K hK => ?_) AllReadyH.nil
        go_simp
        refine (HRT2.out _ (Below.drew (Below.refl _ _))).mono ?_
        rintro e w6 ⟨rfl, hb6⟩
        have HB6 : Hid (Below wr.heap.size wr w6) := (Below.drew (Below.refl _ wr)).trans hb6
        clear hb6
        go_wp2_with fail
        refine hK.out _ _ (HS.out _ HB6.out) (fun hHeld2 => ?_)
        clear hK K
        refine wpAnyH_take (i := 45) (v := ?_) rfl (by kernel_rfl) (by kernel_rfl) (by kernel_rfl) (fun _ _ _ h => h) (Or.inl ⟨by rfl, ?_⟩) (by assumption) ?_
        rotate_left
        · (intro w hSw; (try dsimp only at hSw); go_simp; try with_reducible rfl)
        simp only [Act.put, List.getElem_toArray, List.getElem_cons_zero, List.getElem_cons_succ, List.setIfInBounds_toArray, List.set_cons_zero, List.set_cons_succ]
        refine wpAnyH_take (i := 46) (v := ?_) rfl (by kernel_rfl) (by kernel_rfl) (by kernel_rfl) (fun _ _ _ h => h) (Or.inl ⟨by rfl, ?_⟩) (by assumption) ?_
        rotate_left
        · (intro w hSw; (try dsimp only at hSw); go_simp; try with_reducible rfl)
        simp only [Act.put, List.getElem_toArray, List.getElem_cons_zero, List.getElem_cons_succ, List.setIfInBounds_toArray, List.set_cons_zero, List.set_cons_succ]
        refine wpAnyH_take (i := 47) (v := ?_) rfl (by kernel_rfl) (by kernel_rfl) (by kernel_rfl) (fun _ _ _ h => h) (Or.inl ⟨by rfl, ?_⟩) (by assumption) ?_
        rotate_left
        · (intro w hSw; (try dsimp only at hSw); go_simp; try with_reducible rfl)
        simp only [Act.put, List.getElem_toArray, List.getElem_cons_zero, List.getElem_cons_succ, List.setIfInBounds_toArray, List.set_cons_zero, List.set_cons_succ]
        refine wpAnyH_done (by kernel_rfl) ?_ _
        clear hS hHeld2
        go_wp2_with fail
        go_ret
        exact ⟨rfl, HB2.out.trans ((HB4.out.trans ((HBr.out.trans (HB6.out.mono HBr.out.size)).mono HB4.out.size)).mono HB2.out.size)⟩
  · have HC1 : Hid _ := HCD.out _ HB2x.out
    rw [desc_none hok] at HC1
    have hEQ : ∀ W, (Op.equalIn 10000 34 (.agg zeroT) (.agg zeroT)).run Tryd.prog W = .ok true W := fun W => equal34 0 0 _ _ _ (by simp) W
    have HAZ : Hid ((zeroT).all (·.oneCell') = true) := tabC_all _ _ _ _ _
    have HBAD : Hid (l = 0 ∨ lv < 0 ∨ 3 < lv) := by
      show _ ∨ _
      by_cases h1 : l = 0
      · exact .inl h1
      · have h2 := hf2 (by omega)
        by_cases h3 : lv < 0
        · exact .inr (.inl h3)
        · exact .inr (.inr (by have : ¬ lv < 4 := fun h => hok ⟨h2, by omega, h⟩; omega))
    clear hok hf2
    go_wp2_with fail
    refine Calls.mono HC1.out ?_
    rintro e w3 ⟨rfl, hb3'⟩
    have HB3 : Hid (Below w2.heap.size w2 w3) := HB2x.out.trans (hb3'.mono HB2x.out.size)
    have HR3 : Hid ((w3.alloc (.cells zeroT 34)).heap[w3.heap.size]? = some (.cells zeroT 34 (0, 0))) := World.alloc_heap_new _ _
    clear hb3' HC1
    go_upto_region 5 with (refine wpList_store_row rfl 34 (.tmp 9) (.tmp 26) rfl w3.heap.size zeroT rfl rfl 34 zeroT HR3.out (by rw [size34, HZ.out]) rfl HAZ.out ?_)
    generalize hX3 : World.setRow _ _ _ = X3
    have HX3 : Hid (X3.heap[w3.heap.size]? = some (.cells zeroT 34 (0, 0))) := by show _ = _; rw [← hX3]; exact setRow_heap _ _ _ _ _ _ HR3.out
    have HBX3 : Hid (Below w2.heap.size w2 X3) := HB3.out.trans (by rw [← hX3]; exact (below_setRow (bel_alloc w3 _) (Nat.le_refl _) _).mono HB3.out.size)
    clear hX3
    by_cases h1 : l = 0
    · have h1z : ((l : Int) == 0) = true := by simp; omega
      go_wp2_with (first | (refine Sm.wpList_load_rowG (by rfl) 34 (.tmp 9) rfl w3.heap.size rfl 34 zeroT (0, 0) _ HX3.out Tryd.underlying34 rfl (by rw [size34, HZ.out]) ?_) | (refine wpList_buildG (by rfl) 34 rfl zeroT built34z ?_))
      go_ret
      exact ⟨rfl, HB2.out.trans (HBX3.out.mono HB2.out.size)⟩
    · have h1z : ((l : Int) == 0) = false := by simp; omega
      by_cases h3 : lv < 0
      · go_wp2_with (first | (refine Sm.wpList_load_rowG (by rfl) 34 (.tmp 9) rfl w3.heap.size rfl 34 zeroT (0, 0) _ HX3.out Tryd.underlying34 rfl (by rw [size34, HZ.out]) ?_) | (refine wpList_buildG (by rfl) 34 rfl zeroT built34z ?_))
        go_ret
        exact ⟨rfl, HB2.out.trans (HBX3.out.mono HB2.out.size)⟩
      · have h4 : 3 < lv := by have := HBAD.out; omega
        go_wp2_with (first | (refine Sm.wpList_load_rowG (by rfl) 34 (.tmp 9) rfl w3.heap.size rfl 34 zeroT (0, 0) _ HX3.out Tryd.underlying34 rfl (by rw [size34, HZ.out]) ?_) | (refine wpList_buildG (by rfl) 34 rfl zeroT built34z ?_))
        go_ret
        exact ⟨rfl, HB2.out.trans (HBX3.out.mono HB2.out.size)⟩
end Go.Proofs.YtcgjhopfdpaocaaDoor
