/-
  The level changes nothing else of what is known: what the law TableLevels answers, for any arguments.
-/
import Derived.Test.YtcgjhopfdpaocaaDoorTbQ
namespace Go.Proofs.YtcgjhopfdpaocaaDoor
open Go.RowKit Go.Sort Go.Shelf
set_option linter.unusedSectionVars false
variable [Inhabited E] [DecidableEq E]
theorem and3 (n : Int) : bits .and .i64 n 3 = n % 4 := by
  have hm : (BitVec.ofInt 64 3).toNat = 2 ^ 2 - 1 := by decide
  have key : (BitVec.ofInt 64 n &&& BitVec.ofInt 64 3).toNat = (n % ((2 ^ 64 : Nat) : Int)).toNat % 2 ^ 2 := by
    rw [BitVec.toNat_and, BitVec.toNat_ofInt, hm, Nat.and_two_pow_sub_one_eq_mod]
  show IntKind.i64.wrap ((BitVec.ofInt 64 n &&& BitVec.ofInt 64 3).toNat : Nat) = n % 4
  rw [key, IntKind.wrap_i64]
  omega
theorem set_lv (lv lv' n : Int) (d : List UInt8) (k1 k2 : ByteArray) : (tabC lv n d k1 k2).setIfInBounds 0 (.int .i64 lv') = tabC lv' n d k1 k2 := by
  unfold tabC; rfl
theorem desc_fit {z lv : Int} {es : List E} (hf : fitB es = true) (hlv : 0 ≤ lv ∧ lv < 4) : descV z lv es = .tuple #[.agg (tabC lv es.length (Sm.rootD z (es.map bytesB)) es[0]!.key es[es.length - 1]!.key), .int .i64 0] := by
  unfold descV; rw [if_pos ⟨hf, hlv⟩]
theorem desc_none {z lv : Int} {es : List E} (hf : ¬ (fitB es = true ∧ 0 ≤ lv ∧ lv < 4)) : descV z lv es = .tuple #[.agg zeroT, .int .i64 1] := by
  unfold descV; rw [if_neg hf]
theorem fit_nil_no : ¬ fitB ([] : List E) = true := by unfold fitB; simp
set_option maxRecDepth 100000 in
set_option maxHeartbeats 4000000 in
theorem levelsT_walk (ao : Option Addr) (n c : Nat) (es : List E) (a b z : Int) (w : World) (hE : EntsV w ao n es) (hsm : Small es) (hnc : n ≤ c) (hc : c ≤ 9223372036854775807) (hz : -9223372036854775808 ≤ z ∧ z ≤ 9223372036854775807) (hK : Sm.WW w 1 Sm.ks) (hz0 : 1 < w.heap.size) :
    Calls Tryd.prog 10 #[.slice ao n c, .int .i64 a, .int .i64 b, .int .i64 z] w fun e w' => e = .returned (.bool true) ∧ Below w.heap.size w w' := by
  go_enter Tryd.func10, Tryd.ntmps10
  go_wp2_with fail
  refine (shownT_any w hK hz0).mono ?_
  rintro e w1 ⟨rfl, hb1⟩
  go_wp2_with fail
  refine (fit4_any ao n c es w1 (hE.below hb1 (Nat.le_refl _)) hsm (by omega)).mono ?_
  rintro e w2 ⟨v2, rfl, hown2, hb2⟩
  have hl2 := fitS_len es
  have hf2 := fitS_fit es
  have hrt2 := fitS_right es
  obtain ⟨fs, HF⟩ : ∃ fs, Hid (fitS es = fs) := ⟨_, rfl⟩
  rw [HF.out] at hown2 hl2 hf2 hrt2
  have HSM : Hid (Small fs) := right_small hrt2
  have hB2 : Below w.heap.size w w2 := hb1.trans (hb2.mono hb1.size)
  have HB2 : Hid (Below w.heap.size w w2) := hB2
  have HKK : Hid (∀ W, Below w.heap.size w W → Sm.WW W 1 Sm.ks ∧ 1 < W.heap.size) := fun W hW => ⟨hK.below hW hz0, Nat.lt_of_lt_of_le hz0 hW.size⟩
  obtain ⟨l, HL⟩ : ∃ l, Hid (fs.length = l) := ⟨_, rfl⟩
  rw [HL.out] at hown2 hl2 hf2
  clear hb1 hb2 hE hsm hB2 hK hz0 hrt2 hnc hc
  have ha3 := and3 a
  have hb3 := and3 b
  obtain ⟨la, HLA⟩ : ∃ x, Hid (a % 4 = x) := ⟨_, rfl⟩
  obtain ⟨lb, HLB⟩ : ∃ x, Hid (b % 4 = x) := ⟨_, rfl⟩
  have hla : 0 ≤ la ∧ la < 4 := by rw [← HLA.out]; omega
  have hlb : 0 ≤ lb ∧ lb < 4 := by rw [← HLB.out]; omega
  have HAB : Hid ((0 ≤ la ∧ la < 4) ∧ (0 ≤ lb ∧ lb < 4)) := ⟨hla, hlb⟩
  rw [HLA.out] at ha3
  rw [HLB.out] at hb3
  clear hla hlb
  obtain ⟨ao2, c2, rfl, hE2, h02⟩ := own_entsV0 hown2 HL.out
  have HLOW : Hid (∀ x, ao2 = some x → x.block < w2.heap.size) := fun x hx => by
    subst hx
    exact (hown2.lt x.block rfl).2
  have HCD : Hid (∀ W lv, Below w2.heap.size w2 W → Calls Tryd.prog 15 #[.agg #[.int .i64 z], .int .i64 lv, .slice ao2 l c2] W fun e w' => e = .returned (descV z lv fs) ∧ Below W.heap.size W w') := fun W lv hW => by
    obtain ⟨h1, h2⟩ := HKK.out W (HB2.out.trans (hW.mono HB2.out.size))
    exact describe_any z lv ao2 l c2 fs W (hE2.below hW (Nat.le_refl _)) HSM.out (by omega) (fun x hx => Nat.lt_of_lt_of_le (HLOW.out x hx) hW.size) h1 h2 hz
  have HZ : Hid ((zeroT).size = 36) := tabC_size 0 0 (by simp) _ _
  have hgd := guard34
  clear hown2 hE2 h02 hz
  by_cases h0 : l = 0
  · have h0z : ((l : Int) == 0) = true := by simp; omega
    have hnil : fs = [] := List.eq_nil_of_length_eq_zero (by rw [HL.out]; exact h0)
    have HN : Hid (∀ lv, descV z lv fs = .tuple #[.agg zeroT, .int .i64 1]) := fun lv => desc_none (fun h => fit_nil_no (hnil ▸ h.1))
    have HKX : Hid ((zeroT).size = 36) := HZ
    have HKY : Hid ((zeroT).size = 36) := HZ
    have HAX : Hid ((zeroT).all (·.oneCell') = true) := tabC_all _ _ _ _ _
    have HAY : Hid ((zeroT).all (·.oneCell') = true) := tabC_all _ _ _ _ _
    clear h0 hf2 hnil
    have HC1 : Hid _ := HCD.out w2 la (Below.refl _ _)
    rw [HN.out] at HC1
    go_wp2_with fail
    refine Calls.mono HC1.out ?_
    rintro e w3 ⟨rfl, hb3'⟩
    have HB3 : Hid (Below w2.heap.size w2 w3) := hb3'
    have HR3 : Hid ((w3.alloc (.cells zeroT 34)).heap[w3.heap.size]? = some (.cells zeroT 34 (0, 0))) := World.alloc_heap_new _ _
    clear hb3' HC1
    go_upto_region 6 with (refine wpList_store_row rfl 34 (.tmp 10) (.tmp 27) rfl w3.heap.size zeroT rfl rfl 34 zeroT HR3.out (by rw [size34, HKX.out]) rfl HAX.out ?_)
    generalize hX3 : World.setRow _ _ _ = X3
    have HX3 : Hid (X3.heap[w3.heap.size]? = some (.cells zeroT 34 (0, 0))) := by show _ = _; rw [← hX3]; exact setRow_heap _ _ _ _ _ _ HR3.out
    have HBX3 : Hid (Below w2.heap.size w2 X3) := HB3.out.trans (by rw [← hX3]; exact (below_setRow (bel_alloc w3 _) (Nat.le_refl _) _).mono HB3.out.size)
    have HC2 : Hid _ := HCD.out X3 lb HBX3.out
    rw [HN.out] at HC2
    clear hX3
    go_wp2_with fail
    refine Calls.mono HC2.out ?_
    rintro e w4 ⟨rfl, hb4'⟩
    have HB4 : Hid (Below w2.heap.size w2 w4) := HBX3.out.trans (hb4'.mono HBX3.out.size)
    have HX4 : Hid (w4.heap[w3.heap.size]? = some (.cells zeroT 34 (0, 0))) := (hb4'.block _ (Array.getElem?_eq_some_iff.1 HX3.out).1).trans HX3.out
    have HR4 : Hid ((w4.alloc (.cells zeroT 34)).heap[w4.heap.size]? = some (.cells zeroT 34 (0, 0))) := World.alloc_heap_new _ _
    clear hb4' HC2
    go_upto_region 7 with (refine wpList_store_row rfl 34 (.tmp 12) (.tmp 35) rfl w4.heap.size zeroT rfl rfl 34 zeroT HR4.out (by rw [size34, HKY.out]) rfl HAY.out ?_)
    generalize hX5 : World.setRow _ _ _ = X5
    have hb5 : Below w4.heap.size w4 X5 := by rw [← hX5]; exact below_setRow (bel_alloc w4 _) (Nat.le_refl _) _
    have HY5 : Hid (X5.heap[w4.heap.size]? = some (.cells zeroT 34 (0, 0))) := by show _ = _; rw [← hX5]; exact setRow_heap _ _ _ _ _ _ HR4.out
    have HX5 : Hid (X5.heap[w3.heap.size]? = some (.cells zeroT 34 (0, 0))) := (hb5.block _ (Array.getElem?_eq_some_iff.1 HX4.out).1).trans HX4.out
    have HB5 : Hid (Below w2.heap.size w2 X5) := HB4.out.trans (hb5.mono HB4.out.size)
    have HLT : Hid (w3.heap.size < w4.heap.size) := (Array.getElem?_eq_some_iff.1 HX4.out).1
    clear hX5 hb5
    go_wp2
    go_ret
    exact ⟨rfl, HB2.out.trans (HB5.out.mono HB2.out.size)⟩
  · have h0z : ((l : Int) == 0) = false := by simp; omega
    have HFIT : Hid (fitB fs = true) := hf2 (by omega)
    obtain ⟨d, HD⟩ : ∃ d, Hid (Sm.rootD z (fs.map bytesB) = d) := ⟨_, rfl⟩
    have HDL : Hid (d.length = 32) := by show _ = _; rw [← HD.out]; exact Sm.rootD_length _ _
    have HDA : Hid (descV z la fs = .tuple #[.agg (tabC la (fs.length : Nat) d fs[0]!.key fs[fs.length - 1]!.key), .int .i64 0]) := by show _ = _; rw [desc_fit HFIT.out HAB.out.1, HD.out]
    have HDB : Hid (descV z lb fs = .tuple #[.agg (tabC lb (fs.length : Nat) d fs[0]!.key fs[fs.length - 1]!.key), .int .i64 0]) := by show _ = _; rw [desc_fit HFIT.out HAB.out.2, HD.out]
    obtain ⟨nn, HNN⟩ : ∃ x : Int, Hid (((fs.length : Nat) : Int) = x) := ⟨_, rfl⟩
    obtain ⟨k1, HK1⟩ : ∃ x, Hid (fs[0]!.key = x) := ⟨_, rfl⟩
    obtain ⟨k2, HK2⟩ : ∃ x, Hid (fs[fs.length - 1]!.key = x) := ⟨_, rfl⟩
    rw [HNN.out, HK1.out, HK2.out] at HDA HDB
    obtain ⟨kx, HKXE⟩ : ∃ x, Hid (tabC la nn d k1 k2 = x) := ⟨_, rfl⟩
    obtain ⟨ky, HKYE⟩ : ∃ x, Hid (tabC lb nn d k1 k2 = x) := ⟨_, rfl⟩
    rw [HKXE.out] at HDA
    rw [HKYE.out] at HDB
    have HKX : Hid (kx.size = 36) := by show _ = _; rw [← HKXE.out]; exact tabC_size _ _ HDL.out _ _
    have HKY : Hid (ky.size = 36) := by show _ = _; rw [← HKYE.out]; exact tabC_size _ _ HDL.out _ _
    have HAX : Hid (kx.all (·.oneCell') = true) := by show _ = _; rw [← HKXE.out]; exact tabC_all _ _ _ _ _
    have HAY : Hid (ky.all (·.oneCell') = true) := by show _ = _; rw [← HKYE.out]; exact tabC_all _ _ _ _ _
    clear h0 hf2
    have HC1 : Hid _ := HCD.out w2 la (Below.refl _ _)
    rw [HDA.out] at HC1
    go_wp2_with fail
    refine Calls.mono HC1.out ?_
    rintro e w3 ⟨rfl, hb3'⟩
    have HB3 : Hid (Below w2.heap.size w2 w3) := hb3'
    have HR3 : Hid ((w3.alloc (.cells zeroT 34)).heap[w3.heap.size]? = some (.cells zeroT 34 (0, 0))) := World.alloc_heap_new _ _
    clear hb3' HC1
    go_upto_region 6 with (refine wpList_store_row rfl 34 (.tmp 10) (.tmp 27) rfl w3.heap.size kx rfl rfl 34 zeroT HR3.out (by rw [size34, HKX.out]) (by rw [HKX.out, HZ.out]) HAX.out ?_)
    generalize hX3 : World.setRow _ _ _ = X3
    have HX3 : Hid (X3.heap[w3.heap.size]? = some (.cells kx 34 (0, 0))) := by show _ = _; rw [← hX3]; exact setRow_heap _ _ _ _ _ _ HR3.out
    have HBX3 : Hid (Below w2.heap.size w2 X3) := HB3.out.trans (by rw [← hX3]; exact (below_setRow (bel_alloc w3 _) (Nat.le_refl _) _).mono HB3.out.size)
    have HC2 : Hid _ := HCD.out X3 lb HBX3.out
    rw [HDB.out] at HC2
    clear hX3
    go_wp2_with fail
    refine Calls.mono HC2.out ?_
    rintro e w4 ⟨rfl, hb4'⟩
    have HB4 : Hid (Below w2.heap.size w2 w4) := HBX3.out.trans (hb4'.mono HBX3.out.size)
    have HX4 : Hid (w4.heap[w3.heap.size]? = some (.cells kx 34 (0, 0))) := (hb4'.block _ (Array.getElem?_eq_some_iff.1 HX3.out).1).trans HX3.out
    have HR4 : Hid ((w4.alloc (.cells zeroT 34)).heap[w4.heap.size]? = some (.cells zeroT 34 (0, 0))) := World.alloc_heap_new _ _
    clear hb4' HC2
    go_upto_region 7 with (refine wpList_store_row rfl 34 (.tmp 12) (.tmp 35) rfl w4.heap.size ky rfl rfl 34 zeroT HR4.out (by rw [size34, HKY.out]) (by rw [HKY.out, HZ.out]) HAY.out ?_)
    generalize hX5 : World.setRow _ _ _ = X5
    have hb5 : Below w4.heap.size w4 X5 := by rw [← hX5]; exact below_setRow (bel_alloc w4 _) (Nat.le_refl _) _
    have HY5 : Hid (X5.heap[w4.heap.size]? = some (.cells ky 34 (0, 0))) := by show _ = _; rw [← hX5]; exact setRow_heap _ _ _ _ _ _ HR4.out
    have HX5 : Hid (X5.heap[w3.heap.size]? = some (.cells kx 34 (0, 0))) := (hb5.block _ (Array.getElem?_eq_some_iff.1 HX4.out).1).trans HX4.out
    have HB5 : Hid (Below w2.heap.size w2 X5) := HB4.out.trans (hb5.mono HB4.out.size)
    have HLT : Hid (w3.heap.size < w4.heap.size) := (Array.getElem?_eq_some_iff.1 HX4.out).1
    clear hX5 hb5
    have hEQ : ∀ W, (Op.equalIn 10000 34 (.agg kx) (.agg kx)).run Tryd.prog W = .ok true W := fun W => by rw [← HKXE.out]; exact equal34 la nn d k1 k2 HDL.out W
    have hy0 : X5.cell? ⟨w4.heap.size, 0, none⟩ = some (.int .i64 lb) := by
      have h := HY5.out
      rw [← HKYE.out] at h
      exact (tab_cells HDL.out h).1
    have hyf : X5.frozen? ⟨w4.heap.size, 0, none⟩ = false := by simp [World.frozen?, HY5.out]
    have HW6 : Hid ((X5.setCell ⟨w4.heap.size, 0, none⟩ (.int .i64 la)).heap[w4.heap.size]? = some (.cells kx 34 (0, 0))) := by
      show _ = _
      rw [heap_set X5 w4.heap.size 0 ky 34 (.int .i64 la) HY5.out, ← HKYE.out, set_lv, HKXE.out]
    have HV6 : Hid ((X5.setCell ⟨w4.heap.size, 0, none⟩ (.int .i64 la)).heap[w3.heap.size]? = some (.cells kx 34 (0, 0))) := by
      show _ = _
      rw [heap_set_far X5 w4.heap.size w3.heap.size _ (by have := HLT.out; omega)]; exact HX5.out
    have HB6 : Hid (Below w.heap.size w (X5.setCell ⟨w4.heap.size, 0, none⟩ (.int .i64 la))) := (HB2.out.trans (HB5.out.mono HB2.out.size)).setCell (p := ⟨w4.heap.size, 0, none⟩) (Nat.le_trans HB2.out.size HB4.out.size) _
    go_upto_region 10 with fail
    obtain ⟨X6, HX6⟩ : ∃ X6, Hid (X5.setCell ⟨w4.heap.size, 0, none⟩ (.int .i64 la) = X6) := ⟨_, rfl⟩
    rw [HX6.out] at HW6 HV6 HB6 ⊢
    clear hy0 hyf
    go_wp2_with (first | (refine Sm.wpList_load_rowG (by rfl) 34 (.tmp 10) rfl w3.heap.size rfl 34 kx (0, 0) _ HV6.out Tryd.underlying34 rfl (by rw [size34, HKX.out]) ?_) | (refine Sm.wpList_load_rowG (by rfl) 34 (.tmp 12) rfl w4.heap.size rfl 34 kx (0, 0) _ HW6.out Tryd.underlying34 rfl (by rw [size34, HKX.out]) ?_))
    go_ret
    exact ⟨rfl, HB6.out⟩
end Go.Proofs.YtcgjhopfdpaocaaDoor
