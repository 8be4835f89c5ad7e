/-
  What is written is read as it was: what the law TableBack answers, for any arguments.
-/
import Derived.Test.YtcgjhopfdpaocaaDoorTbO
import Derived.Test.YtcgjhopfdpaocaaDoorBackW
namespace Go.Proofs.YtcgjhopfdpaocaaDoor
open Go.RowKit Go.Sort Go.Shelf
set_option linter.unusedSectionVars false
variable [Inhabited E] [DecidableEq E]
theorem parT_of {base : Nat} {l : List E} (hf : fitB l = true) {e : Ending} {w' : World} (h : ParT base (fileB l) e w') : ∃ g c, e = .returned (.tuple #[.slice (some ⟨g, 0, none⟩) l.length c, .int .i64 0]) ∧ w'.ownsRow base 51 4 (.slice (some ⟨g, 0, none⟩) l.length c) l.length (flatE l) := by
  rcases h with ⟨_, hno⟩ | ⟨g, c, l0, he, hIF, hown⟩
  · exact absurd rfl (hno l hf)
  · obtain rfl := hIF.2.2 l hf rfl
    exact ⟨g, c, he, hown⟩
theorem getT_of {l : List E} (hf : fitB l = true) {key : ByteArray} {e : Ending} (h : GetT (fileB l) key e) : e = .returned (getVT l key) := by
  rcases h with ⟨_, hno⟩ | ⟨l0, he, hIF⟩
  · exact absurd rfl (hno l hf)
  · obtain rfl := hIF.2.2 l hf rfl
    exact he
theorem getVT_at {l : List E} (hf : fitB l = true) {i : Nat} (hi : i < l.length) {k v : ByteArray} {d : Bool} {q : Int} (hx : l[i]! = ⟨k, v, d, q⟩) : getVT l k = .tuple #[.agg #[.string k, .string v, .bool d, .int .i64 q], .bool true, .int .i64 0] := by
  have hk : l[i]!.key = k := by rw [hx]
  have hb : belowN k l = i := by have := below_at (fit_ks hf) i hi; rw [hk] at this; exact this
  have hin : isIn k l = true := by
    rw [ks_isIn k (fit_ks hf), hb, decide_eq_true hi, decide_eq_true hk]; rfl
  unfold getVT
  rw [hin, if_pos rfl, hb, hx]
  rfl
theorem getVT_bool (l : List E) (key : ByteArray) : ∃ k v d q, getVT l key = .tuple #[.agg #[.string k, .string v, .bool d, .int .i64 q], .bool (isIn key l), .int .i64 0] := by
  unfold getVT
  cases h : isIn key l with
  | true => exact ⟨_, _, _, _, rfl⟩
  | false => exact ⟨ByteArray.empty, ByteArray.empty, false, 0, rfl⟩
set_option maxRecDepth 100000 in
set_option maxHeartbeats 4000000 in
theorem backT_walk (ao : Option Addr) (n c : Nat) (es : List E) (key : ByteArray) (w : World) (hE : EntsV w ao n es) (hsm : Small es) (hnc : n ≤ c) (hc : c ≤ 9223372036854775807) (hK : Sm.WW w 1 Sm.ks) (hz0 : 1 < w.heap.size) :
    Calls Tryd.prog 5 #[.slice ao n c, .string key] w fun e w' => e = .returned (.bool true) ∧ Below w.heap.size w w' := by
  go_enter Tryd.func5, Tryd.ntmps5
  go_wp2_with fail
  refine (shownT_any w hK hz0).mono ?_
  rintro e w1 ⟨rfl, hb1⟩
  go_wp2_with fail
  refine (fit4_any ao n c es w1 (hE.below hb1 (Nat.le_refl _)) hsm (by omega)).mono ?_
  rintro e w2 ⟨v2, rfl, hown2, hb2⟩
  have hl2 := fitS_len es
  have hf2 := fitS_fit es
  obtain ⟨fs, HF⟩ : ∃ fs, Hid (fitS es = fs) := ⟨_, rfl⟩
  rw [HF.out] at hown2 hl2 hf2
  have hB2 : Below w.heap.size w w2 := hb1.trans (hb2.mono hb1.size)
  have HB2 : Hid (Below w.heap.size w w2) := hB2
  obtain ⟨l, HL⟩ : ∃ l, Hid (fs.length = l) := ⟨_, rfl⟩
  rw [HL.out] at hown2 hl2 hf2
  clear hb1 hb2 hE hsm hB2 hK hz0
  by_cases h0 : l = 0
  · obtain ⟨ao2, c2, rfl, -⟩ := own_entsV hown2 HL.out
    have h0z : ((l : Int) == 0) = true := by simp; omega
    clear h0 hf2 hown2
    go_wp2
    go_ret
    exact ⟨rfl, HB2.out⟩
  · obtain ⟨g2, c2, rfl, hE2, -, hgl2, hnc2, -⟩ := own_shapeT hown2 (Nat.pos_of_ne_zero h0)
    have h0z : ((l : Int) == 0) = false := by simp; omega
    have HFIT : Hid (fitB fs = true) := hf2 (by omega)
    have HE2 : Hid (EntsV w2 (some ⟨g2, 0, none⟩) l fs) := ⟨HL.out, fun _ => ⟨g2, 0, rfl, hE2⟩⟩
    have HC : Hid _ := tableBytes_some g2 0 l c2 fs w2 HE2.out hnc2 HFIT.out hgl2
    clear hf2 h0 hown2 hE2 hgl2 hnc2
    go_wp2_with fail
    refine Calls.mono HC.out ?_
    rintro e w3 ⟨v3, rfl, hown3, hb3⟩
    have hfl := fileB_len HFIT.out
    obtain ⟨m, HM⟩ : ∃ m, Hid ((fileB fs).length = m) := ⟨_, rfl⟩
    rw [HM.out] at hown3 hfl
    obtain ⟨g3, c3, rfl, -, hg3, hlc3, hcm3⟩ := own_shape hown3 (by omega)
    have hby3 := own_row_bytes hown3
    have HX : Hid (∀ W, Below w3.heap.size w3 W → SV.at ⟨some ⟨g3, 0, none⟩, m, c3, fileB fs⟩ W.heap.size W) := fun W hW => ⟨bytes_kept hby3 hW (Nat.le_refl _), ⟨(fun h => by cases h), hlc3, hcm3⟩, fun y hy _ => by cases hy; exact Nat.lt_of_lt_of_le hg3 hW.size⟩
    have HGT : Hid (∀ W key, Below w3.heap.size w3 W → Calls Tryd.prog 23 #[.slice (some ⟨g3, 0, none⟩) m c3, .string key] W fun e w' => e = .returned (getVT fs key) ∧ Below W.heap.size W w') := fun W key hW => by
      refine (getT_any ⟨some ⟨g3, 0, none⟩, m, c3, fileB fs⟩ key W (HX.out W hW) (by show m ≤ 1000000; omega)).mono ?_
      rintro e w' ⟨h1, h2⟩
      exact ⟨getT_of HFIT.out h1, h2⟩
    have HCP : Hid _ := parseT_any ⟨some ⟨g3, 0, none⟩, m, c3, fileB fs⟩ w3 (HX.out w3 (Below.refl _ _)) (by show m ≤ 1000000; omega)
    have HB3 : Hid (Below w.heap.size w w3) := HB2.out.trans (hb3.mono HB2.out.size)
    have HE3 : Hid (EntsV w3 (some ⟨g2, 0, none⟩) l fs) := HE2.out.below hb3 (Nat.le_refl _)
    clear hown3 hby3 hb3 HC HE2 hlc3 hcm3 hg3 hfl HX
    go_wp2_with fail
    refine Calls.mono HCP.out ?_
    rintro e w4 ⟨he, hb4⟩
    obtain ⟨g4, c4, rfl, hown4⟩ := parT_of HFIT.out he
    rw [HL.out] at hown4 ⊢
    obtain ⟨ao4, c4', hv4, hE4⟩ := own_entsV hown4 HL.out
    cases hv4
    have CSM := same_any (some ⟨g4, 0, none⟩) l c4 fs (some ⟨g2, 0, none⟩) l c2 fs w4 hE4 (HE3.out.below hb4 (Nat.le_refl _)) (by omega) (by omega)
    rw [show decide (fs = fs) = true from decide_eq_true rfl] at CSM
    have HCS : Hid _ := CSM
    have HB4 : Hid (Below w3.heap.size w3 w4) := hb4
    clear hb4 hown4 hE4 HCP CSM he
    go_wp2_with fail
    refine Calls.mono HCS.out ?_
    rintro e w5 ⟨rfl, hb5⟩
    have HB5 : Hid (Below w3.heap.size w3 w5) := HB4.out.trans (hb5.mono HB4.out.size)
    clear hb5 HCS HB4
    go_wp2
    go_loopw [11, 12, 13, 14] (fun x _ _ _ wr => ∃ i : Nat, x = .int .i64 i ∧ i ≤ l ∧ Hid (Below w3.heap.size w3 wr)) (fun x _ _ _ _ => l - (intOf x).toNat)
    case atStart => exact ⟨0, rfl, by omega, HB5.out⟩
    case round =>
      obtain ⟨i, rfl, hil, HBr⟩ := hrel
      by_cases hlt : i < l
      · have hltz : (i : Int) < (l : Int) := by omega
        have hEr := HE3.out.below HBr.out (Nat.le_refl _)
        obtain ⟨k0, v0, d0, q0, HXX⟩ : ∃ k0 v0 d0 q0, Hid (fs[i]! = E.mk k0 v0 d0 q0) := ⟨_, _, _, _, rfl⟩
        obtain ⟨c0, -, -, -⟩ := ents_cells hEr hlt HXX.out g2 0 rfl
        have CG := HGT.out wr k0 HBr.out
        rw [getVT_at HFIT.out (by rw [HL.out]; exact hlt) HXX.out] at CG
        have HCG : Hid _ := CG
        simp only [Nat.zero_add] at c0
        have hg := guard23
        have hEQ := fun W => equal23 k0 v0 d0 q0 k0 v0 d0 q0 W
        simp only [decide_true] at hEQ
        clear hEr CG
        go_wp2_with fail
        refine Calls.mono HCG.out ?_
        rintro e w6 ⟨rfl, hb6⟩
        have HB6 : Hid (Below w3.heap.size w3 w6) := HBr.out.trans (hb6.mono HBr.out.size)
        have f0 := fun o => bel_cell (bel_alloc w6 o) (Nat.le_refl _) (ents_cells (HE3.out.below HB6.out (Nat.le_refl _)) hlt HXX.out g2 0 rfl).1
        have f1 := fun o => bel_cell (bel_alloc w6 o) (Nat.le_refl _) (ents_cells (HE3.out.below HB6.out (Nat.le_refl _)) hlt HXX.out g2 0 rfl).2.1
        have f2 := fun o => bel_cell (bel_alloc w6 o) (Nat.le_refl _) (ents_cells (HE3.out.below HB6.out (Nat.le_refl _)) hlt HXX.out g2 0 rfl).2.2.1
        have f3 := fun o => bel_cell (bel_alloc w6 o) (Nat.le_refl _) (ents_cells (HE3.out.below HB6.out (Nat.le_refl _)) hlt HXX.out g2 0 rfl).2.2.2
        simp only [Nat.zero_add] at f0 f1 f2 f3
        clear hb6 c0 HCG
        go_wp2_with fail
        go_quiet (fail)
        go_wp2
        go_roundw
        case rel => exact ⟨i + 1, by go_num, by omega, bel_drewN (HB6.out.trans ((bel_alloc w6 _).mono HB6.out.size)) _⟩
        case measure => simp [intOf]; omega
      · have hltz : ¬ (i : Int) < (l : Int) := by omega
        have HEr : Hid (EntsV wr (some ⟨g2, 0, none⟩) l fs) := HE3.out.below HBr.out (Nat.le_refl _)
        have CF := find_any (some ⟨g2, 0, none⟩) l c2 fs key wr HEr.out (by omega)
        obtain ⟨p, HP⟩ : ∃ p, Hid (belowN key fs = p) := ⟨_, rfl⟩
        obtain ⟨q, HQ⟩ : ∃ q, Hid (isIn key fs = q) := ⟨_, rfl⟩
        rw [HP.out, HQ.out] at CF
        have HCF : Hid _ := CF
        clear CF
        go_wp2_with fail
        refine Calls.mono HCF.out ?_
        rintro e w6 ⟨rfl, hb6⟩
        have HB6 : Hid (Below w3.heap.size w3 w6) := HBr.out.trans (hb6.mono HBr.out.size)
        have CG := HGT.out w6 key HB6.out
        obtain ⟨k1, v1, d1, q1, hgv⟩ := getVT_bool fs key
        rw [hgv, HQ.out] at CG
        have HCG : Hid _ := CG
        clear CG hb6 HCF hgv
        go_wp2_with fail
        refine Calls.mono HCG.out ?_
        rintro e w7 ⟨rfl, hb7⟩
        have HB7 : Hid (Below w3.heap.size w3 w7) := HB6.out.trans (hb7.mono HB6.out.size)
        clear hb7 HCG
        cases q <;> (go_wp2; go_ret; exact ⟨rfl, HB3.out.trans ((HB7.out.trans ((bel_alloc w7 _).mono HB7.out.size)).mono HB3.out.size)⟩)
end Go.Proofs.YtcgjhopfdpaocaaDoor
