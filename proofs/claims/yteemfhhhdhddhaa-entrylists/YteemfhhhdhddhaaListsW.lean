/-
  Lists are sorted, or not, and come to something: what the law EntryLists answers, for any arguments.
-/
import Derived.Test.YteemfhhhdhddhaaRefM
import Derived.Test.YteemfhhhdhddhaaMapW
import Derived.Test.YteemfhhhdhddhaaRefB
namespace Go.Proofs.Yteemfhhhdhddhaa
open Go.RowKit Go.Sort Go.Shelf
set_option linter.unusedSectionVars false
variable [Inhabited E] [DecidableEq E]
set_option maxRecDepth 100000 in
set_option maxHeartbeats 8000000 in
theorem lists_walk (ao : Option Addr) (n c : Nat) (es : List E) (key : ByteArray) (w : World) (hE : EntsV w ao n es) (hsm : Small es) (hnc : n ≤ c) (hc : c ≤ 9223372036854775807) :
    Calls Try.prog 4 #[.slice ao n c, .string key] w fun e w' => e = .returned (.bool true) ∧ Below w.heap.size w w' := by
  go_enter Try.func4, Try.ntmps4
  go_wp2_with fail
  refine (shown_any w).mono ?_
  rintro e w1 ⟨rfl, hb1⟩
  go_wp2_with fail
  refine (few_any ao n c 100 es w1 (hE.below hb1 (Nat.le_refl _)) hsm (by omega) (by omega)).mono ?_
  rintro e w2 ⟨v2, rfl, hown2, hb2⟩
  have hl2 := fewS_len 200 1100 100 es
  obtain ⟨fs, HF⟩ : ∃ fs, Hid (fewS 200 1100 100 es = fs) := ⟨_, rfl⟩
  rw [HF.out] at hown2 hl2
  obtain ⟨ao2, c2, rfl, hE2, h02⟩ := own_entsV0 hown2 rfl
  have hB2 : Below w.heap.size w w2 := hb1.trans (hb2.mono hb1.size)
  clear hown2 hb1 hb2 hE hsm
  have h100 : fs.length ≤ 100 := by omega
  clear hl2
  obtain ⟨l, HL⟩ : ∃ l, Hid (fs.length = l) := ⟨_, rfl⟩
  rw [HL.out] at hE2 h100 ⊢
  have HB2 : Hid (Below w.heap.size w w2) := hB2
  have HO3 : Hid ((w2.alloc (.cells #[] 23)).ownsRow w2.heap.size 23 4 (.slice (some ⟨w2.heap.size, 0, none⟩) 0 0) 0 (flatE [])) := own_emptyE w2
  have HE2 : Hid (EntsV w2 ao2 l fs) := hE2
  have HE3 : Hid (EntsV (w2.alloc (.cells #[] 23)) ao2 l fs) := hE2.below (bel_alloc w2 _) (Nat.le_refl _)
  clear hB2 hE2
  go_upto_region 3 with fail
  go_wp2_with (at_builtin; refine wpList_append_ents _ rfl (.tmp 20) (.tmp 21) rfl w2.heap.size _ 0 [] rfl HO3.out (by simp) ao2 l c2 fs rfl HE3.out h02 (by omega) ?_)
  intro v4 w4 hown4 hb4
  rw [HL.out] at hown4
  obtain ⟨ao4, c4, rfl, hE4⟩ := own_entsV hown4 HL.out
  have HB4 : Hid (Below w2.heap.size w2 w4) := (bel_alloc w2 _).trans hb4
  have HX4 : Hid (EntsV w4 ao4 l fs) := hE4
  have HL4 : Hid (EntsV w4 ao2 l fs) := HE2.out.below HB4.out (Nat.le_refl _)
  have HZ4 : Hid (Below w.heap.size w w4) := HB2.out.trans (HB4.out.mono HB2.out.size)
  clear hown4 hE4 hb4 HO3 HE3 HE2 HB4 HB2
  have HF4 : Hid _ := fold_any ao4 l c4 fs w4 HX4.out (by omega)
  have hlf := foldS_len fs
  rw [HL.out] at hlf
  obtain ⟨f, HG⟩ : ∃ f, Hid (foldS fs = f) := ⟨_, rfl⟩
  obtain ⟨lf, HLF⟩ : ∃ l, Hid (f.length = l) := ⟨_, rfl⟩
  rw [HG.out, HLF.out] at HF4
  rw [HG.out, HLF.out] at hlf
  go_wp2_with fail
  refine Calls.mono HF4.out ?_
  rintro e w5 ⟨v5, rfl, hown5, hb5⟩
  obtain ⟨ao5, c5, rfl, hE5⟩ := own_entsV hown5 HLF.out
  have HO5 : Hid (w5.ownsRow w4.heap.size 23 4 (.slice ao5 lf c5) lf (flatE f)) := hown5
  have HE5 : Hid (EntsV w5 ao5 lf f) := hE5
  have HB5 : Hid (Below w4.heap.size w4 w5) := hb5
  clear hown5 hE5 hb5 HF4
  have HF5 : Hid _ := refFold_any ao2 l c2 fs w5 (HL4.out.below HB5.out (Nat.le_refl _)) (by omega)
  rw [HG.out, HLF.out] at HF5
  go_wp2_with fail
  refine Calls.mono HF5.out ?_
  rintro e w6 ⟨v6, rfl, hown6, hb6⟩
  obtain ⟨ao6, c6, rfl, hE6⟩ := own_entsV hown6 HLF.out
  have HS6 : Hid _ := same_any ao5 lf c5 f ao6 lf c6 f w6 (HE5.out.below hb6 (Nat.le_refl _)) hE6 (by omega) (by omega)
  have HB6 : Hid (Below w5.heap.size w5 w6) := hb6
  clear hown6 hE6 hb6 HF5
  go_wp2_with fail
  refine Calls.mono HS6.out ?_
  rintro e w7 ⟨rfl, hb7⟩
  simp only [decide_true]
  have HB7 : Hid (Below w5.heap.size w5 w7) := HB6.out.trans (hb7.mono HB6.out.size)
  have HC7 : Hid (Below w4.heap.size w4 w7) := HB5.out.trans (HB7.out.mono HB5.out.size)
  clear hb7 HB6 HS6
  have HM7 : Hid _ := map_any ao4 l c4 fs w7 (HX4.out.below HC7.out (Nat.le_refl _)) (by omega)
  rw [HG.out] at HM7
  go_wp2_with fail
  refine Calls.mono HM7.out ?_
  rintro e w8 ⟨ao8, m8, c8, rfl, hE8, hb8⟩
  have HE8 : Hid (EntsV w8 ao8 m8 (filt f)) := hE8
  have HB8 : Hid (Below w7.heap.size w7 w8) := hb8
  have HC8 : Hid (Below w4.heap.size w4 w8) := HC7.out.trans (hb8.mono HC7.out.size)
  have hm8 : m8 ≤ 100 := by have h1 := hE8.1; have h2 := filt_len f; rw [HLF.out] at h2; omega
  clear hE8 hb8 HM7
  have HM8 : Hid _ := refMap_any ao2 l c2 fs w8 (HL4.out.below HC8.out (Nat.le_refl _)) (by omega)
  rw [HG.out] at HM8
  go_wp2_with fail
  refine Calls.mono HM8.out ?_
  rintro e w9 ⟨ao9, m9, c9, rfl, hE9, hb9⟩
  have hm9 : m9 ≤ 100 := by have h1 := hE9.1; have h2 := filt_len f; rw [HLF.out] at h2; omega
  have HS9 : Hid _ := same_any ao8 m8 c8 (filt f) ao9 m9 c9 (filt f) w9 (HE8.out.below hb9 (Nat.le_refl _)) hE9 (by omega) (by omega)
  have HB9 : Hid (Below w5.heap.size w5 w9) := (HB7.out.trans (HB8.out.mono HB7.out.size)).trans (hb9.mono (Nat.le_trans HB7.out.size HB8.out.size))
  clear hE9 hb9 HM8
  go_wp2_with fail
  refine Calls.mono HS9.out ?_
  rintro e w10 ⟨rfl, hb10⟩
  simp only [decide_true]
  have HB10 : Hid (Below w5.heap.size w5 w10) := HB9.out.trans (hb10.mono HB9.out.size)
  have HO10 : Hid (w10.ownsRow w4.heap.size 23 4 (.slice ao5 lf c5) lf (flatE f)) := own_below HO5.out HB10.out (Nat.le_refl _)
  have HC10 : Hid (Below w4.heap.size w4 w10) := HB5.out.trans (HB10.out.mono HB5.out.size)
  clear hb10 HB9 HS9 HB7 HB8 HC7 HC8 HE8 HE5 HO5
  go_wp2
  go_loopw [11] (fun x wr => ∃ (i : Nat) (xs : List Value), x = .int .i64 i ∧ i ≤ lf ∧ Hid (wr.ownsRow w4.heap.size 23 4 (.slice ao5 lf c5) lf xs) ∧ Hid (Below w4.heap.size w4 wr)) (fun x _ => lf - (intOf x).toNat)
  case atStart => exact ⟨0, _, rfl, by omega, HO10, HC10⟩
  case round =>
    obtain ⟨i, xs, rfl, hil, HO, HB⟩ := hrel
    by_cases hlt : i < lf
    · have hltz : (i : Int) < (lf : Int) := by omega
      have hsh : ∃ g, ao5 = some ⟨g, 0, none⟩ ∧ w4.heap.size ≤ g := by
        rcases HO.out.2 with ⟨h', h0⟩ | ⟨g, cap, cur, h', hb, _⟩
        · omega
        · injection h' with ha; exact ⟨g, ha, hb⟩
      obtain ⟨g, hao, hgb⟩ := hsh
      subst hao
      have hxl : i * 4 < xs.length := by rw [HO.out.1]; omega
      have hcl := HO.out.cells (g := g) rfl (i * 4) _ (List.getElem?_eq_getElem hxl)
      rw [Addr.add_lit, Nat.zero_add] at hcl
      have hfz := HO.out.frozenAt (i * 4)
      have HO2 : Hid (World.ownsRow _ w4.heap.size 23 4 (.slice (some ⟨g, 0, none⟩) lf c5) lf _) := (HO.out.stored (i * 4) (.string ⟨#[63]⟩)).1
      have HB2 : Hid (Below w4.heap.size w4 (wr.setCell ⟨g, i * 4, none⟩ (.string ⟨#[63]⟩))) := HB.out.setCell (p := ⟨g, i * 4, none⟩) hgb _
      go_wp2
      go_roundw
      case rel => exact ⟨i + 1, _, by go_num, by omega, HO2, HB2⟩
      case measure => simp [intOf]; omega
    · have hltz : ¬ (i : Int) < (lf : Int) := by omega
      have HFI : Hid _ := find_any ao4 l c4 fs key wr (HX4.out.below HB.out (Nat.le_refl _)) (by omega)
      obtain ⟨m, HM⟩ : ∃ m, Hid (belowN key fs = m) := ⟨_, rfl⟩
      obtain ⟨y, HY⟩ : ∃ y, Hid (isIn key fs = y) := ⟨_, rfl⟩
      rw [HM.out, HY.out] at HFI
      go_wp2_with fail
      refine Calls.mono HFI.out ?_
      rintro e w11 ⟨rfl, hb11⟩
      have HB11 : Hid (Below w4.heap.size w4 w11) := HB.out.trans (hb11.mono HB.out.size)
      have HFJ : Hid _ := refFind_any ao2 l c2 fs key w11 (HL4.out.below HB11.out (Nat.le_refl _)) (by omega)
      rw [HM.out, HY.out] at HFJ
      clear hb11 HFI
      go_wp2_with fail
      refine Calls.mono HFJ.out ?_
      rintro e w12 ⟨rfl, hb12⟩
      have HB12 : Hid (Below w4.heap.size w4 w12) := HB11.out.trans (hb12.mono HB11.out.size)
      have HS12 : Hid _ := same_any ao4 l c4 fs ao2 l c2 fs w12 (HX4.out.below HB12.out (Nat.le_refl _)) (HL4.out.below HB12.out (Nat.le_refl _)) (by omega) (by omega)
      clear hb12 HFJ
      go_wp2_with fail
      refine Calls.mono HS12.out ?_
      rintro e w13 ⟨rfl, hb13⟩
      simp only [decide_true]
      have HB13 : Hid (Below w4.heap.size w4 w13) := HB12.out.trans (hb13.mono HB12.out.size)
      have HSO : Hid _ := sorted_any ao4 l c4 fs w13 (HX4.out.below HB13.out (Nat.le_refl _)) (by omega)
      obtain ⟨so, HSB⟩ : ∃ s, Hid (sortedB fs = s) := ⟨_, rfl⟩
      rw [HSB.out] at HSO
      have em : ((m : Int) == (m : Int)) = true := by simp
      clear hb13 HS12
      go_wp2_with fail
      refine Calls.mono HSO.out ?_
      rintro e w14 ⟨rfl, hb14⟩
      have HB14 : Hid (Below w4.heap.size w4 w14) := HB13.out.trans (hb14.mono HB13.out.size)
      have HSR : Hid _ := refSorted_any ao2 l c2 fs w14 (HL4.out.below HB14.out (Nat.le_refl _)) (by omega)
      rw [HSB.out] at HSR
      clear hb14 HSO
      go_wp2_with fail
      refine Calls.mono HSR.out ?_
      rintro e w15 ⟨rfl, hb15⟩
      have HB15 : Hid (Below w.heap.size w w15) := HZ4.out.trans ((HB14.out.trans (hb15.mono HB14.out.size)).mono HZ4.out.size)
      clear hb15
      go_wp2
      go_ret
      exact ⟨rfl, HB15.out⟩
end Go.Proofs.Yteemfhhhdhddhaa
