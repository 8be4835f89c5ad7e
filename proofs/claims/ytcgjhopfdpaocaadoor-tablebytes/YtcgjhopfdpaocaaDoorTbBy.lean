/-
  Entries have a file, and are known, or not: what the law TableBytes answers, for any arguments.
-/
import Derived.Test.YtcgjhopfdpaocaaDoorTbRd
import Derived.Test.YtcgjhopfdpaocaaDoorTbQ
import Derived.Test.YtcgjhopfdpaocaaDoorTbLv
import Derived.Test.YtcgjhopfdpaocaaDoorPartAG
import Derived.Test.YtcgjhopfdpaocaaDoorPartAI
import Derived.Test.YtcgjhopfdpaocaaDoorPartBB
import Derived.Test.YtcgjhopfdpaocaaDoorTbS
namespace Go.Proofs.YtcgjhopfdpaocaaDoor
open Go.RowKit Go.Sort Go.Shelf
set_option linter.unusedSectionVars false
variable [Inhabited E] [DecidableEq E]
/-- What Bytes tells. -/
def outT (es : List E) : List UInt8 := if fitB es = true then fileB es else []
def errT (es : List E) : Int := if fitB es = true then 0 else 1
theorem tableBytes_any (ao : Option Addr) (n c : Nat) (es : List E) (w : World) (hE : EntsV w ao n es) (hsm : Small es) (hnc : n ≤ c) (hn : n ≤ 1000) (hlow : ∀ x, ao = some x → x.block < w.heap.size) :
    Calls Tryd.prog 13 #[.slice ao n c] w fun e w' => ∃ v', e = .returned (.tuple #[v', .int .i64 (errT es)]) ∧ w'.ownsRow w.heap.size 5 1 v' (outT es).length (cellsOf (outT es)) ∧ Below w.heap.size w w' := by
  unfold outT errT
  by_cases h : fitB es = true
  · rw [if_pos h, if_pos h]
    obtain ⟨b, off, hao, -⟩ := hE.2 (by have := hE.1; have := (fit_len h).1; omega)
    subst hao
    exact tableBytes_some b off n c es w hE hnc h (hlow _ rfl)
  · rw [if_neg h, if_neg h]
    refine (tableBytes_wrong ao n c es w hE hsm (by omega) (by simpa using h)).mono ?_
    rintro e w' ⟨rfl, hb⟩
    exact ⟨_, rfl, World.ownsRow_nil _ _ _ _, hb⟩
theorem refBytesT_any (ao : Option Addr) (n c : Nat) (es : List E) (w : World) (hE : EntsV w ao n es) (hsm : Small es) (hnc : n ≤ c) (hn : n ≤ 1000) :
    Calls Tryd.prog 14 #[.slice ao n c] w fun e w' => e = .returned (.tuple #[.string (bStr (outT es)), .int .i64 (errT es)]) ∧ Below w.heap.size w w' := by
  unfold outT errT
  by_cases h : fitB es = true
  · rw [if_pos h, if_pos h]
    exact refBytesT_some ao n c es w hE hnc h
  · rw [if_neg h, if_neg h]
    exact refBytesT_wrong ao n c es w hE hsm (by omega) (by simpa using h)
theorem desc_form (z lv : Int) (es : List E) : ∃ (kk : Array Value) (er : Int), descV z lv es = .tuple #[.agg kk, .int .i64 er] ∧ kk.size = 36 ∧ kk.all (·.oneCell') = true ∧ ∀ W, (Op.equalIn 10000 34 (.agg kk) (.agg kk)).run Tryd.prog W = .ok true W := by
  by_cases h : fitB es = true ∧ 0 ≤ lv ∧ lv < 4
  · exact ⟨_, _, desc_fit h.1 h.2, tabC_size _ _ (Sm.rootD_length _ _) _ _, tabC_all _ _ _ _ _, fun W => equal34 _ _ _ _ _ (Sm.rootD_length _ _) W⟩
  · exact ⟨_, _, desc_none h, tabC_size _ _ (by simp) _ _, tabC_all _ _ _ _ _, fun W => equal34 _ _ _ _ _ (by simp) W⟩
theorem both_at {ls : List Sm.LV} {fs : List E} (h : Sm.bytesL ls = fs.map bytesB) (i : Nat) (hi : i < fs.length) : ∃ p, ls[i]? = some p ∧ (strE fs)[i]? = some ⟨p.bs.toArray⟩ := by
  have hl : ls.length = fs.length := by have := congrArg List.length h; rw [Sm.bytesL, List.length_map, List.length_map] at this; exact this
  have h1 : (Sm.bytesL ls)[i]? = (fs.map bytesB)[i]? := by rw [h]
  obtain ⟨p, hp⟩ : ∃ p, ls[i]? = some p := ⟨ls[i]'(by omega), List.getElem?_eq_getElem (by omega)⟩
  refine ⟨p, hp, ?_⟩
  rw [Sm.bytesL, List.getElem?_map, hp, List.getElem?_map] at h1
  unfold strE
  rw [List.getElem?_map]
  cases hf : fs[i]? with
  | none => rw [hf] at h1; cases h1
  | some e =>
    rw [hf] at h1
    simp only [Option.map_some, Option.some.injEq] at h1
    simp only [Option.map_some, h1]
theorem own_low {w : World} {base : Nat} {ao : Option Addr} {n c : Nat} {es : List E} (h : w.ownsRow base 51 4 (.slice ao n c) n (flatE es)) : n ≤ c ∧ c ≤ 9223372036854775807 ∧ ∀ x, ao = some x → x.block < w.heap.size := by
  refine ⟨?_, ?_, fun x hx => by subst hx; exact (h.lt x.block rfl).2⟩
  · rcases h.2 with ⟨h1, h2⟩ | ⟨g, cap, cur, h1, h2, h3, h4, h5, -⟩
    · cases h1; omega
    · cases h1; exact h4
  · rcases h.2 with ⟨h1, h2⟩ | ⟨g, cap, cur, h1, h2, h3, h4, h5, -⟩
    · cases h1; omega
    · cases h1; unfold maxLen at h5; omega
set_option maxRecDepth 100000 in
set_option maxHeartbeats 4000000 in
theorem bytesT_walk (ao : Option Addr) (n c : Nat) (es : List E) (lv z : Int) (w : World) (hE : EntsV w ao n es) (hsm : Small es) (hnc : n ≤ c) (hc : c ≤ 9223372036854775807) (hz : -9223372036854775808 ≤ z ∧ z ≤ 9223372036854775807) (hK : Sm.WW w 1 Sm.ks) (hz0 : 1 < w.heap.size) :
    Calls Tryd.prog 3 #[.slice ao n c, .int .i64 lv, .int .i64 z] w fun e w' => e = .returned (.bool true) ∧ Below w.heap.size w w' := by
  go_enter Tryd.func3, Tryd.ntmps3
  go_wp2_with fail
  refine (shownT_any w hK hz0).mono ?_
  rintro e w1 ⟨rfl, hb1⟩
  go_wp2_with fail
  refine (few4_any ao n c 70 es w1 (hE.below hb1 (Nat.le_refl _)) hsm (by omega) (by omega)).mono ?_
  rintro e w2 ⟨v2, rfl, hown2, hb2⟩
  have hl2 := fewS_len 130 1030 70 es
  have hs2 := fewS_small 130 1030 70 es hsm
  obtain ⟨fs, HF⟩ : ∃ fs, Hid (fewS 130 1030 70 es = fs) := ⟨_, rfl⟩
  rw [HF.out] at hown2 hl2 hs2
  obtain ⟨ao2, c2, rfl, hE2, h02⟩ := own_entsV0 hown2 rfl
  obtain ⟨hlc2, -, hlow2⟩ := own_low hown2
  have hB2 : Below w.heap.size w w2 := hb1.trans (hb2.mono hb1.size)
  have HKK : Hid (∀ W, Below w.heap.size w W → Sm.WW W 1 Sm.ks ∧ 1 < W.heap.size) := fun W hW => ⟨hK.below hW hz0, Nat.lt_of_lt_of_le hz0 hW.size⟩
  clear hown2 hb1 hb2 hE hsm hK hz0 hnc hc
  obtain ⟨l, HL⟩ : ∃ l, Hid (fs.length = l) := ⟨_, rfl⟩
  have h70 : l ≤ 70 := by rw [← HL.out]; omega
  rw [HL.out] at hE2 hlc2
  rw [HL.out]
  have HE2 : Hid _ := And.intro hE2 h02
  have HB2 : Hid (Below w.heap.size w w2) := hB2
  have HS2 : Hid (Small fs) := hs2
  have HLC2 : Hid (l ≤ c2) := hlc2
  clear hl2 hE2 hB2 hs2 h02 hlc2 HF
  have HO2 : Hid ((w2.alloc (.cells #[] 51)).ownsRow w2.heap.size 51 4 (.slice (some ⟨w2.heap.size, 0, none⟩) 0 0) 0 (flatE [])) := World.ownsRow_made w2 #[] 0 (Nat.le_refl _) (by decide) rfl
  have HE2a : Hid (EntsV (w2.alloc (.cells #[] 51)) ao2 l fs) := EntsV.below HE2.out.1 (bel_alloc w2 _) (Nat.le_refl _)
  have HZ2 : Hid (w2.heap.size ≤ (w2.alloc (.cells #[] 51)).heap.size) := by show _ ≤ _; simp
  go_wp2_with (at_builtin; refine wpList_append_ents _ rfl (.tmp 25) (.tmp 26) rfl w2.heap.size _ 0 [] rfl HO2.out HZ2.out ao2 l c2 fs rfl HE2a.out HE2.out.2 (by omega) ?_)
  intro v3 w3 hown3 hb3
  rw [HL.out] at hown3
  obtain ⟨ao3, c3, rfl, hE3⟩ := own_entsV hown3 HL.out
  obtain ⟨hlc3, -, hlow3⟩ := own_low hown3
  have HB3 : Hid (Below w2.heap.size w2 w3) := (bel_alloc w2 _).trans hb3
  have HBW3 : Hid (Below w.heap.size w w3) := HB2.out.trans (HB3.out.mono HB2.out.size)
  have HEA : Hid (∀ W, Below w3.heap.size w3 W → EntsV W ao3 l fs) := fun W hW => hE3.below hW (Nat.le_refl _)
  have HEB : Hid (∀ W, Below w3.heap.size w3 W → EntsV W ao2 l fs) := fun W hW => EntsV.below HE2.out.1 (HB3.out.trans (hW.mono HB3.out.size)) (Nat.le_refl _)
  have HLA : Hid (l ≤ c3) := hlc3
  have HLOW : Hid (∀ W, Below w3.heap.size w3 W → ∀ x, ao3 = some x → x.block < W.heap.size) := fun W hW x hx => Nat.lt_of_lt_of_le (hlow3 x hx) hW.size
  have HLOWB : Hid (∀ W, Below w3.heap.size w3 W → ∀ x, ao2 = some x → x.block < W.heap.size) := by
    intro W hW x hx
    exact Nat.lt_of_lt_of_le (hlow2 x hx) (Nat.le_trans HB3.out.size hW.size)
  clear hown3 hb3 hE3 HO2 HE2a HZ2 hlc3 hlow3 hlow2
  have HC4 : Hid _ := tableBytes_any ao3 l c3 fs w3 (HEA.out w3 (Below.refl _ _)) HS2.out HLA.out (by omega) (HLOW.out w3 (Below.refl _ _))
  go_wp2_with fail
  refine Calls.mono HC4.out ?_
  rintro e w4 ⟨v4, rfl, hown4, hb4⟩
  obtain ⟨S, HS⟩ : ∃ S, Hid (bStr (outT fs) = S) := ⟨_, rfl⟩
  obtain ⟨o4, c4, rfl, hby4, -, -, -, -, -⟩ := own_bytes hown4
  have HCV : Hid (∀ W, Below w4.heap.size w4 W → (convert 25 9 (.slice o4 (outT fs).length c4)).run Tryd.prog W = .ok (.string S) W) := fun W hW => by
    have := str_bytes c4 (bytes_kept hby4 hW (Nat.le_refl _))
    rw [← HS.out]; exact this
  obtain ⟨m4, HM4⟩ : ∃ m, Hid ((outT fs).length = m) := ⟨_, rfl⟩
  rw [HM4.out] at HCV ⊢
  have HB4 : Hid (Below w3.heap.size w3 w4) := hb4
  have HC5 : Hid _ := refBytesT_any ao2 l c2 fs w4 (HEB.out w4 HB4.out) HS2.out HLC2.out (by omega)
  obtain ⟨er, HER⟩ : ∃ x, Hid (errT fs = x) := ⟨_, rfl⟩
  rw [HS.out, HER.out] at HC5
  rw [HER.out]
  clear hown4 hby4 hb4 HC4
  go_wp2_with fail
  refine Calls.mono HC5.out ?_
  rintro e w5 ⟨rfl, hb5⟩
  have HB45 : Hid (Below w4.heap.size w4 w5) := hb5
  have HB5 : Hid (Below w3.heap.size w3 w5) := HB4.out.trans (hb5.mono HB4.out.size)
  obtain ⟨kk, er2, HKK2⟩ : ∃ (kk : Array Value) (er2 : Int), Hid (descV z lv fs = .tuple #[.agg kk, .int .i64 er2] ∧ kk.size = 36 ∧ kk.all (·.oneCell') = true ∧ ∀ W, (Op.equalIn 10000 34 (.agg kk) (.agg kk)).run Tryd.prog W = .ok true W) := desc_form z lv fs
  have HC6 : Hid _ := describe_any z lv ao3 l c3 fs w5 (HEA.out w5 HB5.out) HS2.out (by omega) (HLOW.out w5 HB5.out) (HKK.out w5 (HBW3.out.trans (HB5.out.mono HBW3.out.size))).1 (HKK.out w5 (HBW3.out.trans (HB5.out.mono HBW3.out.size))).2 hz
  rw [HKK2.out.1] at HC6
  have HZ : Hid ((zeroT).size = 36) := tabC_size 0 0 (by simp) _ _
  have HKX : Hid (kk.size = 36) := HKK2.out.2.1
  have HAX : Hid (kk.all (·.oneCell') = true) := HKK2.out.2.2.1
  clear hb5 HC5
  go_wp2_with fail
  refine Calls.mono HC6.out ?_
  rintro e w6 ⟨rfl, hb6⟩
  have HB6 : Hid (Below w4.heap.size w4 w6) := HB45.out.trans (hb6.mono HB45.out.size)
  have HR6 : Hid ((w6.alloc (.cells zeroT 34)).heap[w6.heap.size]? = some (.cells zeroT 34 (0, 0))) := World.alloc_heap_new _ _
  clear hb6 HC6
  go_upto_region 7 with (refine wpList_store_row rfl 34 (.tmp 13) (.tmp 44) rfl w6.heap.size kk rfl rfl 34 zeroT HR6.out (by rw [size34, HKX.out]) (by rw [HKX.out, HZ.out]) HAX.out ?_)
  generalize hX6 : World.setRow _ _ _ = X6
  have HX6 : Hid (X6.heap[w6.heap.size]? = some (.cells kk 34 (0, 0))) := by show _ = _; rw [← hX6]; exact setRow_heap _ _ _ _ _ _ HR6.out
  have HBX6 : Hid (Below w4.heap.size w4 X6) := HB6.out.trans (by rw [← hX6]; exact (below_setRow (bel_alloc w6 _) (Nat.le_refl _) _).mono HB6.out.size)
  have HBY6 : Hid (Below w3.heap.size w3 X6) := HB4.out.trans (HBX6.out.mono HB4.out.size)
  have HC7 : Hid _ := refDescribe_any z lv ao2 l c2 fs X6 (HEB.out X6 HBY6.out) HS2.out (by omega) (HLOWB.out X6 HBY6.out) hz
  rw [HKK2.out.1] at HC7
  clear hX6
  go_wp2_with fail
  refine Calls.mono HC7.out ?_
  rintro e w7 ⟨rfl, hb7⟩
  have HB7 : Hid (Below w4.heap.size w4 w7) := HBX6.out.trans (hb7.mono HBX6.out.size)
  have HX7 : Hid (w7.heap[w6.heap.size]? = some (.cells kk 34 (0, 0))) := (hb7.block _ (Array.getElem?_eq_some_iff.1 HX6.out).1).trans HX6.out
  have HR7 : Hid ((w7.alloc (.cells zeroT 34)).heap[w7.heap.size]? = some (.cells zeroT 34 (0, 0))) := World.alloc_heap_new _ _
  clear hb7 HC7
  go_upto_region 8 with (refine wpList_store_row rfl 34 (.tmp 15) (.tmp 51) rfl w7.heap.size kk rfl rfl 34 zeroT HR7.out (by rw [size34, HKX.out]) (by rw [HKX.out, HZ.out]) HAX.out ?_)
  generalize hX8 : World.setRow _ _ _ = X8
  have hb8 : Below w7.heap.size w7 X8 := by rw [← hX8]; exact below_setRow (bel_alloc w7 _) (Nat.le_refl _) _
  have HY8 : Hid (X8.heap[w7.heap.size]? = some (.cells kk 34 (0, 0))) := by show _ = _; rw [← hX8]; exact setRow_heap _ _ _ _ _ _ HR7.out
  have HX8 : Hid (X8.heap[w6.heap.size]? = some (.cells kk 34 (0, 0))) := (hb8.block _ (Array.getElem?_eq_some_iff.1 HX7.out).1).trans HX7.out
  have HB8 : Hid (Below w4.heap.size w4 X8) := HB7.out.trans (hb8.mono HB7.out.size)
  have HBZ8 : Hid (Below w3.heap.size w3 X8) := HB4.out.trans (HB8.out.mono HB4.out.size)
  have HC8 : Hid _ := leavesT_any ao3 l c3 fs X8 (HEA.out X8 HBZ8.out) HS2.out (by omega)
  clear hX8 hb8
  go_wp2_with fail
  refine Calls.mono HC8.out ?_
  rintro e w9 ⟨v9, rfl, ls, hLO, hbs, hb9⟩
  have hll : ls.length = l := by have h := congrArg List.length hbs; rw [List.length_map, List.length_map, HL.out] at h; exact h
  obtain ⟨ao9, c9, hv9, hLV, hbl⟩ := leavesO_V hLO (fun p hp => by
    have h1 : p.bs ∈ ls.map SV.bs := List.mem_map_of_mem hp
    rw [hbs] at h1
    obtain ⟨e0, -, he⟩ := List.mem_map.1 h1
    rw [← he]; exact bytesB_len3 e0)
  rw [hll] at hv9 hLV
  subst hv9
  obtain ⟨lw, HLW⟩ : ∃ x, Hid (ls.map toLV = x) := ⟨_, rfl⟩
  rw [HLW.out] at hLV hbl
  have HBL : Hid (Sm.bytesL lw = fs.map bytesB) := by show _ = _; rw [hbl, hbs]
  have HLV9 : Hid (Sm.LeavesV w9 ao9 l c9 lw) := hLV
  have HB9 : Hid (Below X8.heap.size X8 w9) := hb9
  have HBZ9 : Hid (Below w3.heap.size w3 w9) := HBZ8.out.trans (hb9.mono HBZ8.out.size)
  have HC9 : Hid _ := refLeavesT_any ao2 l c2 fs w9 (HEB.out w9 HBZ9.out) HS2.out (by omega)
  clear hLO hbs hb9 hll hLV hbl HLW HC8
  go_wp2_with fail
  refine Calls.mono HC9.out ?_
  rintro e wa ⟨va, rfl, howna, hba⟩
  have hlla : (strE fs).length = l := by rw [strE_len, HL.out]
  rw [← hlla] at howna
  obtain ⟨aoa, ca, hva, hSV⟩ := Sm.str_of_own howna
  rw [hlla] at hva hSV
  subst hva
  have HLVA : Hid (Sm.LeavesV wa ao9 l c9 lw) := HLV9.out.below hba (Nat.le_refl _)
  have HSVA : Hid (Sm.StrV wa aoa l ca (strE fs)) := hSV
  have HBA : Hid (Below X8.heap.size X8 wa) := HB9.out.trans (hba.mono HB9.out.size)
  clear howna hba hlla hSV HC9 HLV9
  go_wp2
  go_loopw [19, 20] (fun x y wr => x = .bool true ∧ ∃ i : Nat, y = .int .i64 i ∧ i ≤ l ∧ Hid (Below wa.heap.size wa wr)) (fun _ y _ => l - (intOf y).toNat)
  case atStart => exact ⟨rfl, 0, rfl, by omega, Below.refl _ _⟩
  case round =>
    obtain ⟨rfl, i, rfl, hin, HBR⟩ := hrel
    by_cases hlt : i < l
    · have hltz : (i : Int) < (l : Int) := by omega
      obtain ⟨p, hp, hs⟩ := both_at HBL.out i (by rw [HL.out]; exact hlt)
      obtain ⟨g9, f9, hg9, hA9⟩ := (HLVA.out.below HBR.out (Nat.le_refl _)).2.2.2 (by omega)
      obtain ⟨ga, fa, hga, hAa⟩ := (HSVA.out.below HBR.out (Nat.le_refl _)).2.2.2 (by omega)
      obtain ⟨hc9, hby9, -, -⟩ := hA9 i p hp
      have hca := hAa i _ hs
      obtain ⟨T, HT⟩ : ∃ T : ByteArray, Hid ((⟨p.bs.toArray⟩ : ByteArray) = T) := ⟨_, rfl⟩
      rw [HT.out] at hca
      obtain ⟨po, pn, pc, pb⟩ := p
      have hcv : ∀ j, (convert 25 9 (.slice po pn pc)).run Tryd.prog (wr.drewN j) = .ok (.string T) (wr.drewN j) := fun j => by
        have := Sm.str_bytes pc (Sm.bytes_kept hby9 (bel_drewN (Below.refl _ wr) j) (Nat.le_refl _))
        rw [← HT.out]; exact this
      simp only at hc9
      subst hg9 hga
      have hlen9 : l ≤ c9 := HLVA.out.2.1
      have hlena : l ≤ ca := HSVA.out.2.1
      clear hA9 hAa hby9 hp hs
      go_wp2_with fail
      go_quiet (fail)
      go_wp2
      go_roundw
      case rel => exact ⟨by simp, i + 1, by go_num, by omega, bel_drewN HBR.out _⟩
      case measure => simp [intOf]; omega
    · have hltz : ¬ (i : Int) < (l : Int) := by omega
      have HBX : Hid (Below X8.heap.size X8 wr) := HBA.out.trans (HBR.out.mono HBA.out.size)
      have HBV : Hid (Below w3.heap.size w3 wr) := HBZ8.out.trans (HBX.out.mono HBZ8.out.size)
      have CS := same_any ao3 l c3 fs ao2 l c2 fs wr (HEA.out wr HBV.out) (HEB.out wr HBV.out) (by omega) (by omega)
      rw [decide_eq_true rfl] at CS
      have HCS : Hid _ := CS
      clear CS
      go_wp2_with fail
      refine Calls.mono HCS.out ?_
      rintro e wb ⟨rfl, hbb⟩
      have HBB : Hid (Below X8.heap.size X8 wb) := HBX.out.trans (hbb.mono HBX.out.size)
      have HBVB : Hid (Below w3.heap.size w3 wb) := HBZ8.out.trans (HBB.out.mono HBZ8.out.size)
      have hcv := HCV.out wb (HB8.out.trans (HBB.out.mono HB8.out.size))
      have HX : Hid (wb.heap[w6.heap.size]? = some (.cells kk 34 (0, 0))) := (HBB.out.block _ (Array.getElem?_eq_some_iff.1 HX8.out).1).trans HX8.out
      have HY : Hid (wb.heap[w7.heap.size]? = some (.cells kk 34 (0, 0))) := (HBB.out.block _ (Array.getElem?_eq_some_iff.1 HY8.out).1).trans HY8.out
      have hEQ := HKK2.out.2.2.2
      have hgd := guard34
      have HCF : Hid _ := fitT_any ao3 l c3 fs wb (HEA.out wb HBVB.out) HS2.out (by omega)
      clear hbb HCS
      unfold errT at HER
      obtain ⟨r, HR⟩ : ∃ r, Hid (fitB fs = r) := ⟨_, rfl⟩
      rw [HR.out] at HER HCF
      cases r with
      | false => 
        have her := HER.out
        simp at her
        subst her
        go_wp2_with (first | (refine Sm.wpList_load_rowG (by rfl) 34 (.tmp 13) rfl w6.heap.size rfl 34 kk (0, 0) _ HX.out Tryd.underlying34 rfl (by rw [size34, HKX.out]) ?_) | (refine Sm.wpList_load_rowG (by rfl) 34 (.tmp 15) rfl w7.heap.size rfl 34 kk (0, 0) _ HY.out Tryd.underlying34 rfl (by rw [size34, HKX.out]) ?_))
        refine Calls.mono HCF.out ?_
        rintro e wc ⟨rfl, hbc⟩
        have HFIN : Hid (Below w.heap.size w wc) := HBW3.out.trans ((HBVB.out.trans (hbc.mono HBVB.out.size)).mono HBW3.out.size)
        clear hbc
        go_wp2
        go_ret
        exact ⟨rfl, HFIN.out⟩
      | true => 
        have her := HER.out
        simp at her
        subst her
        go_wp2_with (first | (refine Sm.wpList_load_rowG (by rfl) 34 (.tmp 13) rfl w6.heap.size rfl 34 kk (0, 0) _ HX.out Tryd.underlying34 rfl (by rw [size34, HKX.out]) ?_) | (refine Sm.wpList_load_rowG (by rfl) 34 (.tmp 15) rfl w7.heap.size rfl 34 kk (0, 0) _ HY.out Tryd.underlying34 rfl (by rw [size34, HKX.out]) ?_))
        refine Calls.mono HCF.out ?_
        rintro e wc ⟨rfl, hbc⟩
        have HFIN : Hid (Below w.heap.size w wc) := HBW3.out.trans ((HBVB.out.trans (hbc.mono HBVB.out.size)).mono HBW3.out.size)
        clear hbc
        go_wp2
        go_ret
        exact ⟨rfl, HFIN.out⟩
end Go.Proofs.YtcgjhopfdpaocaaDoor
