/-
  A file that is cut, or goes on, is none of its entries: what the law TableCuts answers, for any arguments.
-/
import Derived.Test.YtcgjhopfdpaocaaDoorTbO
namespace Go.Proofs.YtcgjhopfdpaocaaDoor
open Go.RowKit Go.Sort Go.Shelf
set_option linter.unusedSectionVars false
variable [Inhabited E] [DecidableEq E]
set_option maxRecDepth 100000 in
set_option maxHeartbeats 2000000 in
theorem sameE_any (ao : Option Addr) (n c : Nat) (xs : List E) (bo : Option Addr) (m d : Nat) (ys : List E) (w : World) (hA : EntsV w ao n xs) (hB : EntsV w bo m ys) (hn : n ≤ 1000000000000) (hm : m ≤ 1000000000000) :
    Calls Tryd.prog 30 #[.slice ao n c, .slice bo m d] w fun e w' => e = .returned (.bool (decide (xs = ys))) ∧ Below w.heap.size w w' := by
  obtain ⟨r, HR⟩ : ∃ r, Hid (decide (xs = ys) = r) := ⟨_, rfl⟩
  rw [HR.out]
  have HA : Hid _ := hA
  have HB : Hid _ := hB
  clear hA hB
  have hg := guard23
  by_cases hnm : n = m
  · subst hnm
    go_enter Tryd.func30, Tryd.ntmps30
    go_wp2
    go_loopw [5] (fun x wr => ∃ i : Nat, x = .int .i64 i ∧ i ≤ n ∧ Hid (xs.take i = ys.take i) ∧ Below w.heap.size w wr) (fun x _ => n - (intOf x).toNat)
    case atStart => exact ⟨0, rfl, by omega, rfl, Below.refl _ _⟩
    case round =>
      obtain ⟨i, rfl, hin, HS, hbel⟩ := hrel
      by_cases hlt : i < n
      · have hltz : (i : Int) < (n : Int) := by omega
        obtain ⟨b, off, hao, hEn⟩ := HA.out.2 (by omega)
        obtain ⟨b2, off2, hbo, hEn2⟩ := HB.out.2 (by omega)
        have hEr := hEn.below hbel (Nat.le_refl _)
        have hEr2 := hEn2.below hbel (Nat.le_refl _)
        obtain ⟨k0, v0, d0, q0, HX⟩ : ∃ k0 v0 d0 q0, Hid (xs[i]! = E.mk k0 v0 d0 q0) := ⟨_, _, _, _, rfl⟩
        obtain ⟨k1, v1, d1, q1, HY⟩ : ∃ k0 v0 d0 q0, Hid (ys[i]! = E.mk k0 v0 d0 q0) := ⟨_, _, _, _, rfl⟩
        obtain ⟨c0, c1, c2, c3⟩ := ents_four hEr i (by have := HA.out.1; omega) HX.out
        obtain ⟨f0, f1, f2, f3⟩ := ents_four hEr2 i (by have := HB.out.1; omega) HY.out
        subst hao hbo
        have heq := fun w => equal23 k0 v0 d0 q0 k1 v1 d1 q1 w
        have HBE : Hid _ := hbel
        clear hEr hEr2 hEn hEn2 hbel
        have HSN : Hid (xs.take (i + 1) = xs.take i ++ [xs[i]!] ∧ ys.take (i + 1) = ys.take i ++ [ys[i]!]) := ⟨take_snoc xs i (by have := HA.out.1; omega), take_snoc ys i (by have := HB.out.1; omega)⟩
        by_cases he : (⟨k0, v0, d0, q0⟩ : E) = ⟨k1, v1, d1, q1⟩
        · have HE : Hid _ := he
          rw [decide_eq_true he] at heq
          clear he
          go_wp2_with fail
          go_quiet (fail)
          go_wp2
          go_roundw
          case rel => exact ⟨i + 1, by go_num, by omega, (by show _ = _; rw [HSN.out.1, HSN.out.2, HS.out, HX.out, HY.out, HE.out]), bel_drewN HBE.out nq⟩
          case measure => simp [intOf]; omega
        · have hf : r = false := by
            rw [← HR.out]
            refine decide_eq_false fun h => he ?_
            rw [← HX.out, ← HY.out, h]
          subst hf
          rw [decide_eq_false he] at heq
          clear he
          go_wp2_with fail
          go_quiet (fail)
          go_wp2
          go_ret
          exact ⟨rfl, bel_drewN HBE.out nq⟩
      · have hltz : ¬ (i : Int) < (n : Int) := by omega
        have ht : r = true := by
          rw [← HR.out]
          refine decide_eq_true ?_
          have := HS.out
          rwa [List.take_of_length_le (by have := HA.out.1; omega), List.take_of_length_le (by have := HB.out.1; omega)] at this
        subst ht
        go_wp2
        go_ret
        exact ⟨rfl, hbel⟩
  · have hf : r = false := by
      rw [← HR.out]
      refine decide_eq_false fun h => hnm ?_
      rw [← HA.out.1, ← HB.out.1, h]
    subst hf
    have hnz : ((n : Int) != (m : Int)) = true := by simp; omega
    go_enter Tryd.func30, Tryd.ntmps30
    go_wp2
    go_ret
    exact ⟨rfl, Below.refl _ _⟩
theorem not_same {bs : List UInt8} {l fs : List E} (h : IsFile bs l) (hb : bs.length ≠ (fileB fs).length) : decide (l = fs) = false := by
  refine decide_eq_false (fun e => hb ?_)
  rw [← h.2.1, e]
set_option maxRecDepth 100000 in
set_option maxHeartbeats 4000000 in
theorem cutsT_walk (ao : Option Addr) (n c : Nat) (es : List E) (at_ : Int) (mo : Option Addr) (mn mc : Nat) (ms : List UInt8) (w : World) (hE : EntsV w ao n es) (hsm : Small es) (hnc : n ≤ c) (hc : c ≤ 9223372036854775807) (hmb : Bytes w mo mn ms) (hm0 : mo = none → mc = 0) (hmn : mn ≤ mc) (hK : Sm.WW w 1 Sm.ks) (hz0 : 1 < w.heap.size) :
    Calls Tryd.prog 9 #[.slice ao n c, .int .i64 at_, .slice mo mn mc] w fun e w' => e = .returned (.bool true) ∧ Below w.heap.size w w' := by
  go_enter Tryd.func9, Tryd.ntmps9
  go_wp2_with fail
  refine (shownT_any w hK hz0).mono ?_
  rintro e w1 ⟨rfl, hb1⟩
  go_wp2_with fail
  refine (fit4_any ao n c es w1 (hE.below hb1 (Nat.le_refl _)) hsm (by omega)).mono ?_
  rintro e w2 ⟨v2, rfl, hown2, hb2⟩
  have hl2 := fitS_len es
  have hf2 := fitS_fit es
  have hrt2 := fitS_right es
  obtain ⟨fs, HF⟩ : ∃ fs, Hid (fitS es = fs) := ⟨_, rfl⟩
  rw [HF.out] at hown2 hl2 hf2 hrt2
  have HSM : Hid (Small fs) := right_small hrt2
  have hB2 : Below w.heap.size w w2 := hb1.trans (hb2.mono hb1.size)
  have HB2 : Hid (Below w.heap.size w w2) := hB2
  have HKK : Hid (∀ W, Below w.heap.size w W → Sm.WW W 1 Sm.ks ∧ 1 < W.heap.size) := fun W hW => ⟨hK.below hW hz0, Nat.lt_of_lt_of_le hz0 hW.size⟩
  obtain ⟨l, HL⟩ : ∃ l, Hid (fs.length = l) := ⟨_, rfl⟩
  rw [HL.out] at hown2 hl2 hf2
  have HMB : Hid (Bytes w mo mn ms) := hmb
  have HM0 : Hid (mo = none → mc = 0) := hm0
  clear hmb hm0 hb1 hb2 hE hsm hB2 hK hz0 hrt2 hnc hc
  by_cases h0 : l = 0
  · obtain ⟨ao2, c2, rfl, -⟩ := own_entsV hown2 HL.out
    have h0z : ((l : Int) == 0) = true := by simp; omega
    clear h0 hf2 hown2
    go_wp2
    go_ret
    exact ⟨rfl, HB2.out⟩
  · obtain ⟨g2, c2, rfl, hE2, -, hgl2, hnc2, -⟩ := own_shapeT hown2 (Nat.pos_of_ne_zero h0)
    have h0z : ((l : Int) == 0) = false := by simp; omega
    have HFIT : Hid (fitB fs = true) := hf2 (by omega)
    have HE2 : Hid (EntsV w2 (some ⟨g2, 0, none⟩) l fs) := ⟨HL.out, fun _ => ⟨g2, 0, rfl, hE2⟩⟩
    have HC : Hid _ := tableBytes_some g2 0 l c2 fs w2 HE2.out hnc2 HFIT.out hgl2
    have hp0 : 0 < l := Nat.pos_of_ne_zero h0
    clear hf2 h0 hown2 hE2 hgl2
    go_wp2_with fail
    refine Calls.mono HC.out ?_
    rintro e w3 ⟨v3, rfl, hown3, hb3⟩
    have hfl := fileB_len HFIT.out
    obtain ⟨m, HM⟩ : ∃ m, Hid ((fileB fs).length = m) := ⟨_, rfl⟩
    rw [HM.out] at hown3 hfl
    obtain ⟨g3, c3, rfl, -, hg3, hlc3, hcm3⟩ := own_shape hown3 (by omega)
    have HBY3 : Hid (Bytes w3 (some ⟨g3, 0, none⟩) m (fileB fs)) := own_row_bytes hown3
    have HB3 : Hid (Below w.heap.size w w3) := HB2.out.trans (hb3.mono HB2.out.size)
    have HE3 : Hid (EntsV w3 (some ⟨g2, 0, none⟩) l fs) := HE2.out.below hb3 (Nat.le_refl _)
    clear hown3 hb3 HC HE2
    have HX : Hid (∀ W p, Below w3.heap.size w3 W → p ≤ m → SV.at ⟨some ⟨g3, 0, none⟩, p, c3, (fileB fs).take p⟩ W.heap.size W) := fun W p hW hp => ⟨bytes_take (bytes_kept HBY3.out hW (Nat.le_refl _)) p hp, ⟨(fun h => by cases h), (by show p ≤ c3; omega), hcm3⟩, fun y hy _ => by cases hy; exact Nat.lt_of_lt_of_le hg3 hW.size⟩
    have HMS : Hid (∀ W, Below w3.heap.size w3 W → Bytes W mo mn ms) := fun W hW => bytes_kept HMB.out (HB3.out.trans (hW.mono HB3.out.size)) (Nat.le_refl _)
    have hm12 : 12 ≤ m := hfl.2
    have hm5 : m ≤ 500000 := hfl.1
    clear hfl HMB
    by_cases h1 : 0 < at_
    · obtain ⟨k, rfl⟩ : ∃ k : Nat, at_ = (k : Int) := ⟨at_.toNat, by omega⟩
      obtain ⟨p, hpe⟩ : ∃ p, k % m = p := ⟨_, rfl⟩
      have hp : p < m := by rw [← hpe]; exact Nat.mod_lt _ (by omega)
      have hrem : (k : Int).tmod (m : Int) = (p : Int) := by rw [Int.tmod_eq_emod_of_nonneg (by omega)]; omega
      have hl0 : ¬ (m : Int) = 0 := by omega
      have hl1 : ((m : Int) == 0) = false := by simp; omega
      have hl2 : (0 : Int) < (m : Int) := by omega
      clear hpe
      have hpz : (p : Int) ≤ (c3 : Int) := by omega
      have HCP : Hid _ := parseT_any ⟨some ⟨g3, 0, none⟩, p, c3, (fileB fs).take p⟩ w3 (HX.out w3 p (Below.refl _ _) (Nat.le_of_lt hp)) (by show p ≤ 1000000; omega)
      have HPL : Hid (((fileB fs).take p).length ≠ (fileB fs).length) := by show _ ≠ _; rw [List.length_take, HM.out]; omega
      obtain ⟨q, hq⟩ : ∃ q, q = min mn 200 := ⟨_, rfl⟩
      have hqz : min (mn : Int) 200 = (q : Int) := by omega
      have hqc : (q : Int) ≤ (mc : Int) := by omega
      have HQ : Hid (q ≤ mn ∧ q ≤ 200) := ⟨by omega, by omega⟩
      clear hq
      go_wp2_with fail
      (try simp only [hrem])
      refine Calls.mono HCP.out ?_
      rintro e w4 ⟨he, hb4⟩
      have HB4 : Hid (Below w3.heap.size w3 w4) := hb4
      clear hb4 HCP hrem
      have HSE : Hid (∀ W (lo : Option Addr) (ll lc : Nat) (l0 : List E), Below w3.heap.size w3 W → EntsV W lo ll l0 → ll ≤ 64 → Calls Tryd.prog 30 #[.slice lo ll lc, .slice (some ⟨g2, 0, none⟩) l c2] W fun e w' => e = .returned (.bool (decide (l0 = fs))) ∧ Below W.heap.size W w') := fun W lo ll lc l0 hW hEV hll => sameE_any lo ll lc l0 (some ⟨g2, 0, none⟩) l c2 fs W hEV (HE3.out.below hW (Nat.le_refl _)) (by omega) (by omega)
      have HPAR : Hid (∀ (bs : List UInt8) (e : Ending) (b0 : Nat) (W : World), bs.length ≠ (fileB fs).length → ParT b0 bs e W → Below w3.heap.size w3 W → e = .returned (.tuple #[.slice none 0 0, .int .i64 2]) ∨ ∃ g c ll, e = .returned (.tuple #[.slice (some ⟨g, 0, none⟩) ll c, .int .i64 0]) ∧ Calls Tryd.prog 30 #[.slice (some ⟨g, 0, none⟩) ll c, .slice (some ⟨g2, 0, none⟩) l c2] W fun e w' => e = .returned (.bool false) ∧ Below W.heap.size W w') := by
        intro bs e b0 W hne hpt hW
        rcases hpt with ⟨h1, -⟩ | ⟨g, c, l0, h1, hIF, hown⟩
        · exact .inl h1
        · refine .inr ⟨g, c, l0.length, h1, ?_⟩
          obtain ⟨ao', c', hv, hEV⟩ := own_entsV hown rfl
          cases hv
          have := HSE.out W (some ⟨g, 0, none⟩) l0.length c l0 hW hEV (fit_len hIF.1).2
          rw [not_same hIF hne] at this; exact this
      have hcase := HPAR.out _ _ _ _ HPL.out he HB4.out
      clear he
      rcases hcase with rfl | ⟨g, c, ll, rfl, hcs⟩
      · by_cases hq0 : q = 0
        · have hq0z : ¬ (0 : Int) < (q : Int) := by omega
          go_wp2
          go_ret
          exact ⟨rfl, HB3.out.trans (HB4.out.mono HB3.out.size)⟩
        · have hq0z : (0 : Int) < (q : Int) := by omega
          have HO0 : Hid ((w4.alloc (.cells #[] 5)).ownsRow w4.heap.size 5 1 (.slice (some ⟨w4.heap.size, 0, none⟩) 0 0) 0 (cellsOf [])) := own_empty w4
          have HBE : Hid (Bytes (w4.alloc (.cells #[] 5)) (some ⟨g3, 0, none⟩) m (fileB fs)) := bytes_kept HBY3.out (HB4.out.trans ((bel_alloc w4 _).mono HB4.out.size)) (Nat.le_refl _)
          have HQB : Hid (∀ W, Below w3.heap.size w3 W → Bytes W mo q (ms.take q)) := fun W hW => bytes_take (HMS.out W hW) q HQ.out.1
          have hqq : q ≤ 200 := HQ.out.2
          go_upto_region 14 with fail
          go_wp2_with (at_builtin; first | (refine wpList_append_bytes _ rfl (.tmp 59) (.tmp 60) rfl w4.heap.size _ 0 [] rfl HO0.out (by simp) (some ⟨g3, 0, none⟩) m c3 (fileB fs) rfl HBE.out (fun h => by cases h) (by omega) ?_; intro v8 w8 hown8 hb8; rw [List.nil_append, HM.out] at hown8; have HO8 : Hid (w8.ownsRow w4.heap.size 5 1 v8 m (cellsOf (fileB fs))) := hown8; have HB8 : Hid (Below w4.heap.size w4 w8) := (bel_alloc w4 _).trans hb8; clear hown8 hb8) | (refine wpList_append_bytes _ rfl (.tmp 61) (.tmp 62) rfl w4.heap.size _ m (fileB fs) rfl HO8.out HB8.out.size mo q mc (ms.take q) rfl (HQB.out _ (HB4.out.trans (HB8.out.mono HB4.out.size))) HM0.out (by omega) ?_; intro v9 w9 hown9 hb9; have HO9 : Hid (w9.ownsRow w4.heap.size 5 1 v9 (fileB fs ++ ms.take q).length (cellsOf (fileB fs ++ ms.take q))) := hown9; have HB9 : Hid (Below w4.heap.size w4 w9) := HB8.out.trans hb9; clear hown9 hb9))
          have hml : (ms.take q).length = q := (HQB.out w3 (Below.refl _ _)).1
          have h9 := HO9.out
          obtain ⟨m9, HM9⟩ : ∃ x, Hid ((fileB fs ++ ms.take q).length = x) := ⟨_, rfl⟩
          have hm9 : m9 = m + q := by rw [← HM9.out, List.length_append, HM.out, hml]
          rw [HM9.out] at h9
          obtain ⟨g9, c9, hv9, -, hg9, hlc9, hcm9⟩ := own_shape h9 (by omega)
          subst hv9
          have HCP2 : Hid _ := parseT_any ⟨some ⟨g9, 0, none⟩, m9, c9, fileB fs ++ ms.take q⟩ w9 ⟨own_row_bytes h9, ⟨(fun h => by cases h), hlc9, hcm9⟩, fun y hy _ => by cases hy; exact hg9⟩ (by show m9 ≤ 1000000; omega)
          have HNE : Hid ((fileB fs ++ ms.take q).length ≠ (fileB fs).length) := by show _ ≠ _; rw [HM9.out, HM.out]; omega
          have HB9w : Hid (Below w3.heap.size w3 w9) := HB4.out.trans (HB9.out.mono HB4.out.size)
          clear h9 hml hm9 hg9 hlc9 hcm9 HO8 HO9 HO0 HBE
          refine Calls.mono HCP2.out ?_
          rintro e w10 ⟨he, hb10⟩
          have HB10 : Hid (Below w3.heap.size w3 w10) := HB9w.out.trans (hb10.mono HB9w.out.size)
          have hcase2 := HPAR.out _ _ _ _ HNE.out he HB10.out
          clear he hb10 HCP2
          rcases hcase2 with rfl | ⟨gx, cx, lx, rfl, hcs2⟩
          · go_wp2
            go_ret
            exact ⟨rfl, HB3.out.trans (HB10.out.mono HB3.out.size)⟩
          · have HCS2 : Hid _ := hcs2
            clear hcs2
            go_wp2_with fail
            refine Calls.mono HCS2.out ?_
            rintro e w11 ⟨rfl, hb11⟩
            have HB11 : Hid (Below w3.heap.size w3 w11) := HB10.out.trans (hb11.mono HB10.out.size)
            clear hb11 HCS2
            go_wp2
            go_ret
            exact ⟨rfl, HB3.out.trans (HB11.out.mono HB3.out.size)⟩
      · have HCS : Hid _ := hcs
        clear hcs
        go_wp2_with fail
        refine Calls.mono HCS.out ?_
        rintro e w5 ⟨rfl, hb5⟩
        have HB5 : Hid (Below w3.heap.size w3 w5) := HB4.out.trans (hb5.mono HB4.out.size)
        clear hb5 HCS HB4
        by_cases hq0 : q = 0
        · have hq0z : ¬ (0 : Int) < (q : Int) := by omega
          go_wp2
          go_ret
          exact ⟨rfl, HB3.out.trans (HB5.out.mono HB3.out.size)⟩
        · have hq0z : (0 : Int) < (q : Int) := by omega
          have HO0 : Hid ((w5.alloc (.cells #[] 5)).ownsRow w5.heap.size 5 1 (.slice (some ⟨w5.heap.size, 0, none⟩) 0 0) 0 (cellsOf [])) := own_empty w5
          have HBE : Hid (Bytes (w5.alloc (.cells #[] 5)) (some ⟨g3, 0, none⟩) m (fileB fs)) := bytes_kept HBY3.out (HB5.out.trans ((bel_alloc w5 _).mono HB5.out.size)) (Nat.le_refl _)
          have HQB : Hid (∀ W, Below w3.heap.size w3 W → Bytes W mo q (ms.take q)) := fun W hW => bytes_take (HMS.out W hW) q HQ.out.1
          have hqq : q ≤ 200 := HQ.out.2
          go_upto_region 14 with fail
          go_wp2_with (at_builtin; first | (refine wpList_append_bytes _ rfl (.tmp 59) (.tmp 60) rfl w5.heap.size _ 0 [] rfl HO0.out (by simp) (some ⟨g3, 0, none⟩) m c3 (fileB fs) rfl HBE.out (fun h => by cases h) (by omega) ?_; intro v8 w8 hown8 hb8; rw [List.nil_append, HM.out] at hown8; have HO8 : Hid (w8.ownsRow w5.heap.size 5 1 v8 m (cellsOf (fileB fs))) := hown8; have HB8 : Hid (Below w5.heap.size w5 w8) := (bel_alloc w5 _).trans hb8; clear hown8 hb8) | (refine wpList_append_bytes _ rfl (.tmp 61) (.tmp 62) rfl w5.heap.size _ m (fileB fs) rfl HO8.out HB8.out.size mo q mc (ms.take q) rfl (HQB.out _ (HB5.out.trans (HB8.out.mono HB5.out.size))) HM0.out (by omega) ?_; intro v9 w9 hown9 hb9; have HO9 : Hid (w9.ownsRow w5.heap.size 5 1 v9 (fileB fs ++ ms.take q).length (cellsOf (fileB fs ++ ms.take q))) := hown9; have HB9 : Hid (Below w5.heap.size w5 w9) := HB8.out.trans hb9; clear hown9 hb9))
          have hml : (ms.take q).length = q := (HQB.out w3 (Below.refl _ _)).1
          have h9 := HO9.out
          obtain ⟨m9, HM9⟩ : ∃ x, Hid ((fileB fs ++ ms.take q).length = x) := ⟨_, rfl⟩
          have hm9 : m9 = m + q := by rw [← HM9.out, List.length_append, HM.out, hml]
          rw [HM9.out] at h9
          obtain ⟨g9, c9, hv9, -, hg9, hlc9, hcm9⟩ := own_shape h9 (by omega)
          subst hv9
          have HCP2 : Hid _ := parseT_any ⟨some ⟨g9, 0, none⟩, m9, c9, fileB fs ++ ms.take q⟩ w9 ⟨own_row_bytes h9, ⟨(fun h => by cases h), hlc9, hcm9⟩, fun y hy _ => by cases hy; exact hg9⟩ (by show m9 ≤ 1000000; omega)
          have HNE : Hid ((fileB fs ++ ms.take q).length ≠ (fileB fs).length) := by show _ ≠ _; rw [HM9.out, HM.out]; omega
          have HB9w : Hid (Below w3.heap.size w3 w9) := HB5.out.trans (HB9.out.mono HB5.out.size)
          clear h9 hml hm9 hg9 hlc9 hcm9 HO8 HO9 HO0 HBE
          refine Calls.mono HCP2.out ?_
          rintro e w10 ⟨he, hb10⟩
          have HB10 : Hid (Below w3.heap.size w3 w10) := HB9w.out.trans (hb10.mono HB9w.out.size)
          have hcase2 := HPAR.out _ _ _ _ HNE.out he HB10.out
          clear he hb10 HCP2
          rcases hcase2 with rfl | ⟨gx, cx, lx, rfl, hcs2⟩
          · go_wp2
            go_ret
            exact ⟨rfl, HB3.out.trans (HB10.out.mono HB3.out.size)⟩
          · have HCS2 : Hid _ := hcs2
            clear hcs2
            go_wp2_with fail
            refine Calls.mono HCS2.out ?_
            rintro e w11 ⟨rfl, hb11⟩
            have HB11 : Hid (Below w3.heap.size w3 w11) := HB10.out.trans (hb11.mono HB10.out.size)
            clear hb11 HCS2
            go_wp2
            go_ret
            exact ⟨rfl, HB3.out.trans (HB11.out.mono HB3.out.size)⟩
    · obtain ⟨p, hpe⟩ : ∃ p, p = 0 := ⟨_, rfl⟩
      have hp : p < m := by omega
      have hrem : True := trivial
      have hpz : (p : Int) ≤ (c3 : Int) := by omega
      have HCP : Hid _ := parseT_any ⟨some ⟨g3, 0, none⟩, p, c3, (fileB fs).take p⟩ w3 (HX.out w3 p (Below.refl _ _) (Nat.le_of_lt hp)) (by show p ≤ 1000000; omega)
      have HPL : Hid (((fileB fs).take p).length ≠ (fileB fs).length) := by show _ ≠ _; rw [List.length_take, HM.out]; omega
      obtain ⟨q, hq⟩ : ∃ q, q = min mn 200 := ⟨_, rfl⟩
      have hqz : min (mn : Int) 200 = (q : Int) := by omega
      have hqc : (q : Int) ≤ (mc : Int) := by omega
      have HQ : Hid (q ≤ mn ∧ q ≤ 200) := ⟨by omega, by omega⟩
      clear hq
      have HP0 : Hid (p = 0) := hpe
      clear hpe
      go_wp2_with fail
      rw [HP0.out] at HCP HPL
      refine Calls.mono HCP.out ?_
      rintro e w4 ⟨he, hb4⟩
      have HB4 : Hid (Below w3.heap.size w3 w4) := hb4
      clear hb4 HCP hrem
      have HSE : Hid (∀ W (lo : Option Addr) (ll lc : Nat) (l0 : List E), Below w3.heap.size w3 W → EntsV W lo ll l0 → ll ≤ 64 → Calls Tryd.prog 30 #[.slice lo ll lc, .slice (some ⟨g2, 0, none⟩) l c2] W fun e w' => e = .returned (.bool (decide (l0 = fs))) ∧ Below W.heap.size W w') := fun W lo ll lc l0 hW hEV hll => sameE_any lo ll lc l0 (some ⟨g2, 0, none⟩) l c2 fs W hEV (HE3.out.below hW (Nat.le_refl _)) (by omega) (by omega)
      have HPAR : Hid (∀ (bs : List UInt8) (e : Ending) (b0 : Nat) (W : World), bs.length ≠ (fileB fs).length → ParT b0 bs e W → Below w3.heap.size w3 W → e = .returned (.tuple #[.slice none 0 0, .int .i64 2]) ∨ ∃ g c ll, e = .returned (.tuple #[.slice (some ⟨g, 0, none⟩) ll c, .int .i64 0]) ∧ Calls Tryd.prog 30 #[.slice (some ⟨g, 0, none⟩) ll c, .slice (some ⟨g2, 0, none⟩) l c2] W fun e w' => e = .returned (.bool false) ∧ Below W.heap.size W w') := by
        intro bs e b0 W hne hpt hW
        rcases hpt with ⟨h1, -⟩ | ⟨g, c, l0, h1, hIF, hown⟩
        · exact .inl h1
        · refine .inr ⟨g, c, l0.length, h1, ?_⟩
          obtain ⟨ao', c', hv, hEV⟩ := own_entsV hown rfl
          cases hv
          have := HSE.out W (some ⟨g, 0, none⟩) l0.length c l0 hW hEV (fit_len hIF.1).2
          rw [not_same hIF hne] at this; exact this
      have hcase := HPAR.out _ _ _ _ HPL.out he HB4.out
      clear he
      rcases hcase with rfl | ⟨g, c, ll, rfl, hcs⟩
      · by_cases hq0 : q = 0
        · have hq0z : ¬ (0 : Int) < (q : Int) := by omega
          go_wp2
          go_ret
          exact ⟨rfl, HB3.out.trans (HB4.out.mono HB3.out.size)⟩
        · have hq0z : (0 : Int) < (q : Int) := by omega
          have HO0 : Hid ((w4.alloc (.cells #[] 5)).ownsRow w4.heap.size 5 1 (.slice (some ⟨w4.heap.size, 0, none⟩) 0 0) 0 (cellsOf [])) := own_empty w4
          have HBE : Hid (Bytes (w4.alloc (.cells #[] 5)) (some ⟨g3, 0, none⟩) m (fileB fs)) := bytes_kept HBY3.out (HB4.out.trans ((bel_alloc w4 _).mono HB4.out.size)) (Nat.le_refl _)
          have HQB : Hid (∀ W, Below w3.heap.size w3 W → Bytes W mo q (ms.take q)) := fun W hW => bytes_take (HMS.out W hW) q HQ.out.1
          have hqq : q ≤ 200 := HQ.out.2
          go_upto_region 14 with fail
          go_wp2_with (at_builtin; first | (refine wpList_append_bytes _ rfl (.tmp 59) (.tmp 60) rfl w4.heap.size _ 0 [] rfl HO0.out (by simp) (some ⟨g3, 0, none⟩) m c3 (fileB fs) rfl HBE.out (fun h => by cases h) (by omega) ?_; intro v8 w8 hown8 hb8; rw [List.nil_append, HM.out] at hown8; have HO8 : Hid (w8.ownsRow w4.heap.size 5 1 v8 m (cellsOf (fileB fs))) := hown8; have HB8 : Hid (Below w4.heap.size w4 w8) := (bel_alloc w4 _).trans hb8; clear hown8 hb8) | (refine wpList_append_bytes _ rfl (.tmp 61) (.tmp 62) rfl w4.heap.size _ m (fileB fs) rfl HO8.out HB8.out.size mo q mc (ms.take q) rfl (HQB.out _ (HB4.out.trans (HB8.out.mono HB4.out.size))) HM0.out (by omega) ?_; intro v9 w9 hown9 hb9; have HO9 : Hid (w9.ownsRow w4.heap.size 5 1 v9 (fileB fs ++ ms.take q).length (cellsOf (fileB fs ++ ms.take q))) := hown9; have HB9 : Hid (Below w4.heap.size w4 w9) := HB8.out.trans hb9; clear hown9 hb9))
          have hml : (ms.take q).length = q := (HQB.out w3 (Below.refl _ _)).1
          have h9 := HO9.out
          obtain ⟨m9, HM9⟩ : ∃ x, Hid ((fileB fs ++ ms.take q).length = x) := ⟨_, rfl⟩
          have hm9 : m9 = m + q := by rw [← HM9.out, List.length_append, HM.out, hml]
          rw [HM9.out] at h9
          obtain ⟨g9, c9, hv9, -, hg9, hlc9, hcm9⟩ := own_shape h9 (by omega)
          subst hv9
          have HCP2 : Hid _ := parseT_any ⟨some ⟨g9, 0, none⟩, m9, c9, fileB fs ++ ms.take q⟩ w9 ⟨own_row_bytes h9, ⟨(fun h => by cases h), hlc9, hcm9⟩, fun y hy _ => by cases hy; exact hg9⟩ (by show m9 ≤ 1000000; omega)
          have HNE : Hid ((fileB fs ++ ms.take q).length ≠ (fileB fs).length) := by show _ ≠ _; rw [HM9.out, HM.out]; omega
          have HB9w : Hid (Below w3.heap.size w3 w9) := HB4.out.trans (HB9.out.mono HB4.out.size)
          clear h9 hml hm9 hg9 hlc9 hcm9 HO8 HO9 HO0 HBE
          refine Calls.mono HCP2.out ?_
          rintro e w10 ⟨he, hb10⟩
          have HB10 : Hid (Below w3.heap.size w3 w10) := HB9w.out.trans (hb10.mono HB9w.out.size)
          have hcase2 := HPAR.out _ _ _ _ HNE.out he HB10.out
          clear he hb10 HCP2
          rcases hcase2 with rfl | ⟨gx, cx, lx, rfl, hcs2⟩
          · go_wp2
            go_ret
            exact ⟨rfl, HB3.out.trans (HB10.out.mono HB3.out.size)⟩
          · have HCS2 : Hid _ := hcs2
            clear hcs2
            go_wp2_with fail
            refine Calls.mono HCS2.out ?_
            rintro e w11 ⟨rfl, hb11⟩
            have HB11 : Hid (Below w3.heap.size w3 w11) := HB10.out.trans (hb11.mono HB10.out.size)
            clear hb11 HCS2
            go_wp2
            go_ret
            exact ⟨rfl, HB3.out.trans (HB11.out.mono HB3.out.size)⟩
      · have HCS : Hid _ := hcs
        clear hcs
        go_wp2_with fail
        refine Calls.mono HCS.out ?_
        rintro e w5 ⟨rfl, hb5⟩
        have HB5 : Hid (Below w3.heap.size w3 w5) := HB4.out.trans (hb5.mono HB4.out.size)
        clear hb5 HCS HB4
        by_cases hq0 : q = 0
        · have hq0z : ¬ (0 : Int) < (q : Int) := by omega
          go_wp2
          go_ret
          exact ⟨rfl, HB3.out.trans (HB5.out.mono HB3.out.size)⟩
        · have hq0z : (0 : Int) < (q : Int) := by omega
          have HO0 : Hid ((w5.alloc (.cells #[] 5)).ownsRow w5.heap.size 5 1 (.slice (some ⟨w5.heap.size, 0, none⟩) 0 0) 0 (cellsOf [])) := own_empty w5
          have HBE : Hid (Bytes (w5.alloc (.cells #[] 5)) (some ⟨g3, 0, none⟩) m (fileB fs)) := bytes_kept HBY3.out (HB5.out.trans ((bel_alloc w5 _).mono HB5.out.size)) (Nat.le_refl _)
          have HQB : Hid (∀ W, Below w3.heap.size w3 W → Bytes W mo q (ms.take q)) := fun W hW => bytes_take (HMS.out W hW) q HQ.out.1
          have hqq : q ≤ 200 := HQ.out.2
          go_upto_region 14 with fail
          go_wp2_with (at_builtin; first | (refine wpList_append_bytes _ rfl (.tmp 59) (.tmp 60) rfl w5.heap.size _ 0 [] rfl HO0.out (by simp) (some ⟨g3, 0, none⟩) m c3 (fileB fs) rfl HBE.out (fun h => by cases h) (by omega) ?_; intro v8 w8 hown8 hb8; rw [List.nil_append, HM.out] at hown8; have HO8 : Hid (w8.ownsRow w5.heap.size 5 1 v8 m (cellsOf (fileB fs))) := hown8; have HB8 : Hid (Below w5.heap.size w5 w8) := (bel_alloc w5 _).trans hb8; clear hown8 hb8) | (refine wpList_append_bytes _ rfl (.tmp 61) (.tmp 62) rfl w5.heap.size _ m (fileB fs) rfl HO8.out HB8.out.size mo q mc (ms.take q) rfl (HQB.out _ (HB5.out.trans (HB8.out.mono HB5.out.size))) HM0.out (by omega) ?_; intro v9 w9 hown9 hb9; have HO9 : Hid (w9.ownsRow w5.heap.size 5 1 v9 (fileB fs ++ ms.take q).length (cellsOf (fileB fs ++ ms.take q))) := hown9; have HB9 : Hid (Below w5.heap.size w5 w9) := HB8.out.trans hb9; clear hown9 hb9))
          have hml : (ms.take q).length = q := (HQB.out w3 (Below.refl _ _)).1
          have h9 := HO9.out
          obtain ⟨m9, HM9⟩ : ∃ x, Hid ((fileB fs ++ ms.take q).length = x) := ⟨_, rfl⟩
          have hm9 : m9 = m + q := by rw [← HM9.out, List.length_append, HM.out, hml]
          rw [HM9.out] at h9
          obtain ⟨g9, c9, hv9, -, hg9, hlc9, hcm9⟩ := own_shape h9 (by omega)
          subst hv9
          have HCP2 : Hid _ := parseT_any ⟨some ⟨g9, 0, none⟩, m9, c9, fileB fs ++ ms.take q⟩ w9 ⟨own_row_bytes h9, ⟨(fun h => by cases h), hlc9, hcm9⟩, fun y hy _ => by cases hy; exact hg9⟩ (by show m9 ≤ 1000000; omega)
          have HNE : Hid ((fileB fs ++ ms.take q).length ≠ (fileB fs).length) := by show _ ≠ _; rw [HM9.out, HM.out]; omega
          have HB9w : Hid (Below w3.heap.size w3 w9) := HB5.out.trans (HB9.out.mono HB5.out.size)
          clear h9 hml hm9 hg9 hlc9 hcm9 HO8 HO9 HO0 HBE
          refine Calls.mono HCP2.out ?_
          rintro e w10 ⟨he, hb10⟩
          have HB10 : Hid (Below w3.heap.size w3 w10) := HB9w.out.trans (hb10.mono HB9w.out.size)
          have hcase2 := HPAR.out _ _ _ _ HNE.out he HB10.out
          clear he hb10 HCP2
          rcases hcase2 with rfl | ⟨gx, cx, lx, rfl, hcs2⟩
          · go_wp2
            go_ret
            exact ⟨rfl, HB3.out.trans (HB10.out.mono HB3.out.size)⟩
          · have HCS2 : Hid _ := hcs2
            clear hcs2
            go_wp2_with fail
            refine Calls.mono HCS2.out ?_
            rintro e w11 ⟨rfl, hb11⟩
            have HB11 : Hid (Below w3.heap.size w3 w11) := HB10.out.trans (hb11.mono HB10.out.size)
            clear hb11 HCS2
            go_wp2
            go_ret
            exact ⟨rfl, HB3.out.trans (HB11.out.mono HB3.out.size)⟩
end Go.Proofs.YtcgjhopfdpaocaaDoor
