/-
  A right list that is cut: what the law SummaryParts answers, for any arguments.
-/
import Derived.Test.YtiimmknnlciljaaDoorSuE
import Derived.Test.YtiimmknnlciljaaDoorAloneW
namespace Go.Proofs.YtiimmknnlciljaaDoor
open Go.RowKit Go.Sort Go.Shelf
set_option linter.unusedSectionVars false
variable [Inhabited E] [DecidableEq E]
theorem getD_take (ts : List Tb) (k i : Nat) (h : i < k) : (ts.take k).getD i zT = ts.getD i zT := by
  rw [List.getD_eq_getElem?_getD, List.getD_eq_getElem?_getD, List.getElem?_take, if_pos h]
theorem getD_drop (ts : List Tb) (k i : Nat) : (ts.drop k).getD i zT = ts.getD (k + i) zT := by
  rw [List.getD_eq_getElem?_getD, List.getD_eq_getElem?_getD, List.getElem?_drop]
theorem right_take {ts : List Tb} (h : rightT ts) (k : Nat) : rightTB (ts.take k) = true := by
  refine rightTB_iff.2 ⟨by rw [List.length_take]; have := h.1; omega, fun i hi => ?_⟩
  rw [List.length_take] at hi
  have := h.2 i (by omega)
  refine ⟨by rw [getD_take _ _ _ (by omega)]; exact this.1, fun h0 => ?_⟩
  rw [getD_take _ _ _ (by omega), getD_take _ _ _ (by omega)]
  exact this.2 h0
theorem right_drop {ts : List Tb} (h : rightT ts) (k : Nat) : rightTB (ts.drop k) = true := by
  refine rightTB_iff.2 ⟨by rw [List.length_drop]; have := h.1; omega, fun i hi => ?_⟩
  rw [List.length_drop] at hi
  have := h.2 (k + i) (by omega)
  refine ⟨by rw [getD_drop]; exact this.1, fun h0 => ?_⟩
  rw [getD_drop, getD_drop]
  have h2 := this.2 (by omega)
  rwa [show k + i - 1 = k + (i - 1) by omega] at h2
def aS : ByteArray := ⟨#[97]⟩
/-- A table of level 0 by itself. -/
def aT : Tb := ⟨0, 1, List.replicate 32 0, aS, aS, by simp⟩
theorem aT_one : oneT aT := by
  have hs : cmpS aS aS = 0 := cmpS_ord.self aS
  refine ⟨by decide, by decide, by decide, by decide, by decide +kernel, by decide +kernel, ?_, fun _ => rfl, fun _ => rfl⟩
  show cmpS aS aS ≤ 0
  omega
theorem right_bad {ts : List Tb} (h : rightT ts) (hl : ts.length ≤ 60) : rightTB (ts ++ [aT]) = !(decide (0 < ts.length) && decide (0 < (ts.getD (ts.length - 1) zT).lv)) := by
  have hg1 : ∀ i, i < ts.length → (ts ++ [aT]).getD i zT = ts.getD i zT := fun i hi => by
    rw [List.getD_eq_getElem?_getD, List.getD_eq_getElem?_getD, List.getElem?_append_left hi]
  have hg2 : (ts ++ [aT]).getD ts.length zT = aT := by
    rw [List.getD_eq_getElem?_getD, List.getElem?_append_right (Nat.le_refl _), Nat.sub_self]; rfl
  by_cases hp : 0 < ts.length ∧ 0 < (ts.getD (ts.length - 1) zT).lv
  · rw [decide_eq_true hp.1, decide_eq_true hp.2]
    refine rightTB_no fun h2 => ?_
    have h3 := (h2.2 ts.length (by simp)).2 hp.1
    rw [hg2, hg1 _ (by omega)] at h3
    unfold nextT at h3
    have h4 : aT.lv = 0 := rfl
    rw [h4] at h3
    split at h3
    · omega
    · omega
  · have e : (!(decide (0 < ts.length) && decide (0 < (ts.getD (ts.length - 1) zT).lv))) = true := by
      by_cases h1 : 0 < ts.length
      · rw [decide_eq_false (fun h2 => hp ⟨h1, h2⟩), Bool.and_false]; rfl
      · rw [decide_eq_false h1]; rfl
    rw [e]
    refine rightTB_iff.2 ⟨by simp; omega, fun i hi => ?_⟩
    have hi2 : i < ts.length + 1 := by simpa using hi
    by_cases hlt : i < ts.length
    · have := h.2 i hlt
      refine ⟨by rw [hg1 i hlt]; exact this.1, fun h0 => ?_⟩
      rw [hg1 i hlt, hg1 (i - 1) (by omega)]
      exact this.2 h0
    · obtain rfl : i = ts.length := by omega
      refine ⟨by rw [hg2]; exact aT_one, fun h0 => ?_⟩
      rw [hg2, hg1 _ (by omega)]
      have h5 := (h.2 (ts.length - 1) (by omega)).1.1
      have h6 : (ts.getD (ts.length - 1) zT).lv = 0 := by
        have : ¬ 0 < (ts.getD (ts.length - 1) zT).lv := fun h2 => hp ⟨h0, h2⟩
        omega
      unfold nextT
      rw [h6, if_pos (show (0 : Int) = aT.lv from rfl)]
      exact .inl rfl
theorem TabsV.take {w : World} {ao : Option Addr} {n : Nat} {ts : List Tb} (h : TabsV w ao n ts) (k : Nat) (hk : k ≤ n) : TabsV w ao k (ts.take k) := by
  refine ⟨by rw [List.length_take, h.1]; omega, fun hp => ?_⟩
  obtain ⟨b, off, h1, h2⟩ := h.2 (by omega)
  refine ⟨b, off, h1, fun j u hu => h2 j u ?_⟩
  have hj := (List.getElem?_eq_some_iff.1 hu).1
  have e : flatT ts = flatT (ts.take k) ++ flatT (ts.drop k) := by rw [← flatT_append, List.take_append_drop]
  rw [e, List.getElem?_append_left hj]
  exact hu
theorem TabsV.from_ {w : World} {b off n : Nat} {ts : List Tb} (h : TabsV w (some ⟨b, off, none⟩) n ts) (k : Nat) (hk : k ≤ n) : TabsV w (some ⟨b, off + k * 36, none⟩) (n - k) (ts.drop k) := by
  refine ⟨by rw [List.length_drop, h.1], fun hp => ?_⟩
  obtain ⟨b', off', h1, h2⟩ := h.2 (by omega)
  cases h1
  refine ⟨b, off + k * 36, rfl, fun j u hu => ?_⟩
  have e : flatT ts = flatT (ts.take k) ++ flatT (ts.drop k) := by rw [← flatT_append, List.take_append_drop]
  have hl : (flatT (ts.take k)).length = k * 36 := by rw [flatT_len, List.length_take, h.1]; congr 1; omega
  have := h2 (k * 36 + j) u (by rw [e, List.getElem?_append_right (by omega), hl, Nat.add_sub_cancel_left]; exact hu)
  rwa [← Nat.add_assoc] at this
theorem rem_in (z : Int) (n : Nat) (h : 0 < z) : ∃ k : Nat, k ≤ n ∧ Int.tmod z ((n : Int) + 1) = (k : Int) := by
  refine ⟨(z % ((n : Int) + 1)).toNat, ?_, ?_⟩
  · have h1 := Int.emod_lt_of_pos z (show (0 : Int) < (n : Int) + 1 by omega)
    have h2 := Int.emod_nonneg z (show ((n : Int) + 1) ≠ 0 by omega)
    omega
  · have h2 := Int.emod_nonneg z (show ((n : Int) + 1) ≠ 0 by omega)
    rw [Int.tmod_eq_emod_of_nonneg (by omega)]
    omega
set_option maxRecDepth 100000 in
set_option maxHeartbeats 16000000 in
theorem parts_walk (ao : Option Addr) (n c : Nat) (ts : List Tb) (z : Int) (w : World) (hT : TabsV w ao n ts) (hS : SmallT ts) (hnc : n ≤ c) (hc : c ≤ 9223372036854775807) (_ho : ao = none → c = 0) (hz : -9223372036854775808 ≤ z ∧ z ≤ 9223372036854775807) (hK : Sm.WW w 0 Sm.ks) (hz0 : 0 < w.heap.size) :
    Calls Tryd.prog 9 #[.slice ao n c, .int .i64 z] w fun e w' => e = .returned (.bool true) ∧ Below w.heap.size w w' := by
  have HZ : Hid (-9223372036854775808 ≤ z ∧ z ≤ 9223372036854775807) := hz
  have C1 : Hid _ := shown_any w hK hz0
  have CF : Hid (∀ W, Below w.heap.size w W → Calls Tryd.prog 12 #[.slice ao n c, .int .i64 60] W fun e w' => ∃ v', e = .returned v' ∧ w'.ownsRow W.heap.size 51 36 v' (fewT 60 ts).length (flatT (fewT 60 ts)) ∧ Below W.heap.size W w') := fun W hW => few_any ao n c 60 ts W (hT.below hW (Nat.le_refl _)) hS (by omega) (by omega)
  obtain ⟨L, HL⟩ : ∃ L, Hid (fewT 60 ts = L) := ⟨_, rfl⟩
  have HSM : Hid (SmallT L ∧ L.length ≤ 60) := by
    show _ ∧ _
    rw [← HL.out]
    exact ⟨fewT_small 60 ts, by rw [fewT_len]; omega⟩
  rw [HL.out] at CF
  clear hT hS hnc hc hz hK hz0 HL
  go_enter Tryd.func9, Tryd.ntmps9
  go_wp2_with fail
  refine Calls.mono C1.out ?_
  rintro e w1 ⟨rfl, hb1⟩
  have HB1 : Hid (Below w.heap.size w w1) := hb1
  clear hb1 C1
  go_wp2_with fail
  refine (CF.out w1 HB1.out).mono ?_
  rintro e w2 ⟨v2, rfl, hown2, hb2⟩
  obtain ⟨a2, c2, rfl, hT2, hn2, hlc2, hcm2, -⟩ := own_tabsV hown2
  have HB2 : Hid (Below w.heap.size w w2) := HB1.out.trans (hb2.mono HB1.out.size)
  obtain ⟨n2, HN2⟩ : ∃ n, Hid (L.length = n) := ⟨_, rfl⟩
  rw [HN2.out] at hT2 hlc2 ⊢
  have HT2 : Hid (TabsV w2 a2 n2 L) := hT2
  have HC2 : Hid ((a2 = none → c2 = 0) ∧ n2 ≤ c2 ∧ c2 ≤ 9223372036854775807) := ⟨hn2, hlc2, hcm2⟩
  have hn60 : n2 ≤ 60 := by rw [← HN2.out]; exact HSM.out.2
  have CR : Hid (∀ W a m cc T, TabsV W a m T → (∀ x ∈ T, x ∈ L ∨ x = aT) → m ≤ 100 → Calls Tryd.prog 18 #[.slice a m cc] W fun e w' => e = .returned (.bool (rightTB T)) ∧ Below W.heap.size W w') := fun W a m cc T hT hm hle => right14_any a m cc T W hT (fun x hx => by
    rcases hm x hx with h | h
    · exact HSM.out.1 x h
    · subst h; exact ⟨by decide +kernel, by decide +kernel⟩) (by omega)
  have HCR := CR.out w2 a2 n2 c2 L HT2.out (fun x hx => .inl hx) (by omega)
  obtain ⟨r, HR⟩ : ∃ r, Hid (rightTB L = r) := ⟨_, rfl⟩
  rw [HR.out] at HCR
  have HCR2 : Hid _ := HCR
  clear hown2 hT2 hb2 hn2 hlc2 hcm2 CF HCR
  go_wp2_with fail
  refine Calls.mono HCR2.out ?_
  rintro e w3 ⟨rfl, hb3⟩
  have HB3 : Hid (Below w.heap.size w w3) := HB2.out.trans (hb3.mono HB2.out.size)
  have HT3 : Hid (TabsV w3 a2 n2 L) := HT2.out.keep hb3
  clear hb3 HCR2 HT2
  cases r with
  | false =>
    go_wp2
    go_ret
    exact ⟨rfl, HB3.out⟩
  | true =>
    have hr := rightTB_iff.1 HR.out
    obtain ⟨lb, HLB⟩ : ∃ b, Hid ((decide (0 < L.length) && decide (0 < (L.getD (L.length - 1) zT).lv)) = b) := ⟨_, rfl⟩
    have HRB : Hid (rightTB (L ++ [aT]) = !lb) := by show _ = _; rw [right_bad hr HSM.out.2, HLB.out]
    have HRD : Hid (∀ k, rightTB (L.take k) = true ∧ rightTB (L.drop k) = true) := fun k => ⟨right_take hr k, right_drop hr k⟩
    rw [HN2.out] at HLB
    clear hr HR
    by_cases hz1 : 0 < z
    · obtain ⟨k, hk, hrem⟩ := rem_in z n2 hz1
      have hHK : Hid (k ≤ n2) := hk
      have hn61 : ¬ ((n2 : Int) + 1 = 0) := by omega
      go_upto_region 8 with fail
      clear hrem hn61 hz1
      go_wp2_with (first | (at_builtin; refine wpList_append_tabs _ rfl (.tmp 23) (.tmp 24) rfl w3.heap.size _ 0 [] rfl (own_emptyT w3) (by simp) a2 n2 c2 L rfl (HT3.out.keep (bel_alloc w3 _)) HC2.out.1 (by omega) ?_))
      intro v4 w4 hown4 hb4
      rw [HN2.out] at hown4
      have HB4 : Hid (Below w3.heap.size w3 w4) := (bel_alloc w3 _).trans hb4
      have HO4 : Hid ((w4.alloc (.cells (encT aT).toArray 51)).ownsRow w3.heap.size 51 36 v4 n2 (flatT L)) := hown4.alloc _
      have HS4 : Hid (w3.heap.size ≤ (w4.alloc (.cells (encT aT).toArray 51)).heap.size) := by show _ ≤ _; have := HB4.out.size; simp; omega
      clear hown4 hb4
      go_wp2_with (first | (refine wpList_build_tab _ rfl (.tmp 26) rfl aT rfl ?_) | (at_builtin; refine wpList_append_tabs _ rfl (.tmp 25) (.tmp 27) rfl w3.heap.size _ n2 L rfl HO4.out HS4.out _ 1 1 [aT] rfl (tabsV_one w4 _) (fun h => by cases h) (by omega) ?_))
      intro v5 w5 hown5 hb5
      obtain ⟨a5, c5, rfl, hT5, -, -, -, -⟩ := own_tabsV hown5
      have HB5 : Hid (Below w3.heap.size w3 w5) := (HB4.out.trans ((bel_alloc w4 _).mono HB4.out.size)).trans hb5
      rw [HN2.out] at hT5 ⊢
      have HT5 : Hid (TabsV w5 a5 (n2 + 1) (L ++ [aT])) := hT5
      have HT5L : Hid (TabsV w5 a2 n2 L) := HT3.out.keep HB5.out
      have HBAD : Hid (∀ W, Below w5.heap.size w5 W → Calls Tryd.prog 18 #[.slice a5 (n2 + 1) c5] W fun e w' => e = .returned (.bool !lb) ∧ Below W.heap.size W w') := fun W hW => by
        have := CR.out W a5 (n2 + 1) c5 (L ++ [aT]) (HT5.out.keep hW) (fun x hx => by
          rcases List.mem_append.1 hx with h | h
          · exact .inl h
          · exact .inr (by simpa using h)) (by omega)
        rw [HRB.out] at this; exact this
      clear hown5 hT5 hb5 HO4 HS4 HB4 HT3
      go_upto_region 9 with fail
      go_cut [8] (fun s wx => s = .bool lb ∧ w5 = wx)
      case first =>
        by_cases hp : 0 < n2
        · obtain ⟨m, rfl⟩ : ∃ m, n2 = m + 1 := ⟨n2 - 1, by omega⟩
          obtain ⟨b, off, rfl, hTb⟩ := HT5L.out.2 (by omega)
          obtain ⟨x, HX⟩ : ∃ x, Hid (L.getD m zT = x) := ⟨_, rfl⟩
          obtain ⟨x0, -, -, -⟩ := range_four (tabs_range hTb m (by rw [HN2.out]; omega) HX.out)
          have hlb : lb = decide (0 < x.lv) := by rw [← HLB.out, decide_eq_true (show 0 < m + 1 by omega), Nat.add_sub_cancel, HX.out]; rfl
          have HLBQ : Hid (lb = decide (0 < x.lv)) := hlb
          generalize x.lv = xl at x0 hlb HLBQ
          have hm1 : (m : Int) + 1 - 1 = (m : Int) := by omega
          have hm2 : (0 : Int) < (m : Int) + 1 := by omega
          have hm0 : (0 : Int) ≤ (m : Int) := by omega
          have hm3 : (m : Int) < (m : Int) + 1 := by omega
          have hwm : IntKind.i64.wrap (m : Int) = (m : Int) := by rw [IntKind.wrap_i64]; omega
          clear hlb hTb hk hp
          by_cases hx : 0 < xl
          · obtain rfl : lb = true := by rw [HLBQ.out]; exact decide_eq_true hx
            go_wp2_with fail
            go_meet
            exact ⟨rfl, rfl⟩
          · obtain rfl : lb = false := by rw [HLBQ.out]; exact decide_eq_false hx
            have hxd : decide (0 < xl) = false := decide_eq_false hx
            go_wp2_with fail
            go_meet
            exact ⟨rfl, rfl⟩
        · obtain rfl : n2 = 0 := by omega
          obtain rfl : lb = false := by rw [← HLB.out]; rfl
          clear hk
          go_wp2_with fail
          go_meet
          exact ⟨rfl, rfl⟩
      case rest =>
        obtain ⟨rfl, rfl⟩ := hcut
        have HW5 : Hid (Below w.heap.size w w5) := HB3.out.trans (HB5.out.mono HB3.out.size)
        have HR1 : Hid (∀ W cc, Below w5.heap.size w5 W → Calls Tryd.prog 18 #[.slice a2 k cc] W fun e w' => e = .returned (.bool true) ∧ Below W.heap.size W w') := fun W cc hW => by
          have := CR.out W a2 k cc (L.take k) ((HT5L.out.keep hW).take k hHK.out) (fun x hx => .inl (List.mem_of_mem_take hx)) (by have := hHK.out; omega)
          rw [(HRD.out k).1] at this; exact this
        have hkc : (k : Int) ≤ (c2 : Int) := by have := HC2.out.2.1; omega
        have hkn : (k : Int) ≤ (n2 : Int) := by omega
        have HNIL : Hid (∀ W ax cc, Calls Tryd.prog 18 #[.slice ax 0 cc] W fun e w' => e = .returned (.bool true) ∧ Below W.heap.size W w') := fun W ax cc => by
          have := CR.out W ax 0 cc [] (tabsV_nil W ax) (fun x hx => by cases hx) (by omega)
          rw [right_nil] at this; exact this
        clear hk HLB HN2 HT5 HB5
        have hlbq : (!(!lb)) = lb := Bool.not_not lb
        cases a2 with
        | none =>
          obtain rfl := HC2.out.1 rfl
          obtain rfl : n2 = 0 := by have := HC2.out.2.1; omega
          obtain rfl : k = 0 := by have := hHK.out; omega
          go_wp2_with fail
          refine (HNIL.out _ _ _).mono ?_
          rintro e w6 ⟨rfl, hb6⟩
          have HB6 : Hid (Below w5.heap.size w5 w6) := hb6
          clear hb6
          go_wp2_with fail
          refine (HNIL.out _ _ _).mono ?_
          rintro e w7 ⟨rfl, hb7⟩
          have HB7 : Hid (Below w5.heap.size w5 w7) := HB6.out.trans (hb7.mono HB6.out.size)
          clear hb7
          go_wp2_with fail
          refine (HBAD.out _ HB7.out).mono ?_
          rintro e w8 ⟨rfl, hb8⟩
          have HB8 : Hid (Below w5.heap.size w5 w8) := HB7.out.trans (hb8.mono HB7.out.size)
          clear hb8
          cases lb with
          | false =>
            go_wp2
            go_ret
            exact ⟨rfl, HW5.out.trans (HB8.out.mono HW5.out.size)⟩
          | true =>
            go_wp2
            go_ret
            exact ⟨rfl, HW5.out.trans (HB8.out.mono HW5.out.size)⟩
        | some ad =>
          obtain ⟨m, HM⟩ : ∃ m, Hid (n2 - k = m) := ⟨_, rfl⟩
          have hmi : (n2 : Int) - (k : Int) = (m : Int) := by rw [← HM.out]; omega
          by_cases hck : c2 = k
          · obtain rfl : n2 = k := by have := HC2.out.2.1; have := hHK.out; omega
            subst hck
            clear hkn hkc hmi
            go_wp2_with fail
            refine (HR1.out _ _ (Below.refl _ _)).mono ?_
            rintro e w6 ⟨rfl, hb6⟩
            have HB6 : Hid (Below w5.heap.size w5 w6) := hb6
            clear hb6
            go_wp2_with fail
            refine (HNIL.out _ _ _).mono ?_
            rintro e w7 ⟨rfl, hb7⟩
            have HB7 : Hid (Below w5.heap.size w5 w7) := HB6.out.trans (hb7.mono HB6.out.size)
            clear hb7
            go_wp2_with fail
            refine (HBAD.out _ HB7.out).mono ?_
            rintro e w8 ⟨rfl, hb8⟩
            have HB8 : Hid (Below w5.heap.size w5 w8) := HB7.out.trans (hb8.mono HB7.out.size)
            clear hb8
            cases lb with
            | false =>
              go_wp2
              go_ret
              exact ⟨rfl, HW5.out.trans (HB8.out.mono HW5.out.size)⟩
            | true =>
              go_wp2
              go_ret
              exact ⟨rfl, HW5.out.trans (HB8.out.mono HW5.out.size)⟩
          · have hck2 : (k : Int) < (c2 : Int) := by omega
            have hck3 : ¬ (c2 : Int) = (k : Int) := by omega
            have HFROM : Hid (∀ W cc, Below w5.heap.size w5 W → Calls Tryd.prog 18 #[.slice (some (ad.add (k * 36))) (n2 - k) cc] W fun e w' => e = .returned (.bool true) ∧ Below W.heap.size W w') := fun W cc hW => by
              have hTV : TabsV W (some (ad.add (k * 36))) (n2 - k) (L.drop k) := by
                have hTW := HT5L.out.keep hW
                by_cases hp : 0 < n2 - k
                · obtain ⟨b, off, h1, -⟩ := hTW.2 (by omega)
                  cases h1
                  rw [Addr.add_lit]
                  exact hTW.from_ k hHK.out
                · exact ⟨by rw [List.length_drop, hTW.1], fun h => absurd h hp⟩
              have := CR.out W _ (n2 - k) cc (L.drop k) hTV (fun x hx => .inl (List.mem_of_mem_drop hx)) (by omega)
              rw [(HRD.out k).2] at this; exact this
            obtain ⟨b, off, sp⟩ := ad
            clear hkc
            go_wp2_with fail
            refine (HR1.out _ _ (Below.refl _ _)).mono ?_
            rintro e w6 ⟨rfl, hb6⟩
            have HB6 : Hid (Below w5.heap.size w5 w6) := hb6
            clear hb6
            go_wp2_with fail
            refine (HFROM.out _ _ HB6.out).mono ?_
            rintro e w7 ⟨rfl, hb7⟩
            have HB7 : Hid (Below w5.heap.size w5 w7) := HB6.out.trans (hb7.mono HB6.out.size)
            clear hb7
            go_wp2_with fail
            refine (HBAD.out _ HB7.out).mono ?_
            rintro e w8 ⟨rfl, hb8⟩
            have HB8 : Hid (Below w5.heap.size w5 w8) := HB7.out.trans (hb8.mono HB7.out.size)
            clear hb8
            cases lb with
            | false =>
              go_wp2
              go_ret
              exact ⟨rfl, HW5.out.trans (HB8.out.mono HW5.out.size)⟩
            | true =>
              go_wp2
              go_ret
              exact ⟨rfl, HW5.out.trans (HB8.out.mono HW5.out.size)⟩
    · have hHK : Hid (0 ≤ n2) := Nat.zero_le _
      go_upto_region 8 with fail
      clear hz1
      go_wp2_with (first | (at_builtin; refine wpList_append_tabs _ rfl (.tmp 23) (.tmp 24) rfl w3.heap.size _ 0 [] rfl (own_emptyT w3) (by simp) a2 n2 c2 L rfl (HT3.out.keep (bel_alloc w3 _)) HC2.out.1 (by omega) ?_))
      intro v4 w4 hown4 hb4
      rw [HN2.out] at hown4
      have HB4 : Hid (Below w3.heap.size w3 w4) := (bel_alloc w3 _).trans hb4
      have HO4 : Hid ((w4.alloc (.cells (encT aT).toArray 51)).ownsRow w3.heap.size 51 36 v4 n2 (flatT L)) := hown4.alloc _
      have HS4 : Hid (w3.heap.size ≤ (w4.alloc (.cells (encT aT).toArray 51)).heap.size) := by show _ ≤ _; have := HB4.out.size; simp; omega
      clear hown4 hb4
      go_wp2_with (first | (refine wpList_build_tab _ rfl (.tmp 26) rfl aT rfl ?_) | (at_builtin; refine wpList_append_tabs _ rfl (.tmp 25) (.tmp 27) rfl w3.heap.size _ n2 L rfl HO4.out HS4.out _ 1 1 [aT] rfl (tabsV_one w4 _) (fun h => by cases h) (by omega) ?_))
      intro v5 w5 hown5 hb5
      obtain ⟨a5, c5, rfl, hT5, -, -, -, -⟩ := own_tabsV hown5
      have HB5 : Hid (Below w3.heap.size w3 w5) := (HB4.out.trans ((bel_alloc w4 _).mono HB4.out.size)).trans hb5
      rw [HN2.out] at hT5 ⊢
      have HT5 : Hid (TabsV w5 a5 (n2 + 1) (L ++ [aT])) := hT5
      have HT5L : Hid (TabsV w5 a2 n2 L) := HT3.out.keep HB5.out
      have HBAD : Hid (∀ W, Below w5.heap.size w5 W → Calls Tryd.prog 18 #[.slice a5 (n2 + 1) c5] W fun e w' => e = .returned (.bool !lb) ∧ Below W.heap.size W w') := fun W hW => by
        have := CR.out W a5 (n2 + 1) c5 (L ++ [aT]) (HT5.out.keep hW) (fun x hx => by
          rcases List.mem_append.1 hx with h | h
          · exact .inl h
          · exact .inr (by simpa using h)) (by omega)
        rw [HRB.out] at this; exact this
      clear hown5 hT5 hb5 HO4 HS4 HB4 HT3
      go_upto_region 9 with fail
      go_cut [8] (fun s wx => s = .bool lb ∧ w5 = wx)
      case first =>
        by_cases hp : 0 < n2
        · obtain ⟨m, rfl⟩ : ∃ m, n2 = m + 1 := ⟨n2 - 1, by omega⟩
          obtain ⟨b, off, rfl, hTb⟩ := HT5L.out.2 (by omega)
          obtain ⟨x, HX⟩ : ∃ x, Hid (L.getD m zT = x) := ⟨_, rfl⟩
          obtain ⟨x0, -, -, -⟩ := range_four (tabs_range hTb m (by rw [HN2.out]; omega) HX.out)
          have hlb : lb = decide (0 < x.lv) := by rw [← HLB.out, decide_eq_true (show 0 < m + 1 by omega), Nat.add_sub_cancel, HX.out]; rfl
          have HLBQ : Hid (lb = decide (0 < x.lv)) := hlb
          generalize x.lv = xl at x0 hlb HLBQ
          have hm1 : (m : Int) + 1 - 1 = (m : Int) := by omega
          have hm2 : (0 : Int) < (m : Int) + 1 := by omega
          have hm0 : (0 : Int) ≤ (m : Int) := by omega
          have hm3 : (m : Int) < (m : Int) + 1 := by omega
          have hwm : IntKind.i64.wrap (m : Int) = (m : Int) := by rw [IntKind.wrap_i64]; omega
          clear hlb hTb hp
          by_cases hx : 0 < xl
          · obtain rfl : lb = true := by rw [HLBQ.out]; exact decide_eq_true hx
            go_wp2_with fail
            go_meet
            exact ⟨rfl, rfl⟩
          · obtain rfl : lb = false := by rw [HLBQ.out]; exact decide_eq_false hx
            have hxd : decide (0 < xl) = false := decide_eq_false hx
            go_wp2_with fail
            go_meet
            exact ⟨rfl, rfl⟩
        · obtain rfl : n2 = 0 := by omega
          obtain rfl : lb = false := by rw [← HLB.out]; rfl
          go_wp2_with fail
          go_meet
          exact ⟨rfl, rfl⟩
      case rest =>
        obtain ⟨rfl, rfl⟩ := hcut
        have HW5 : Hid (Below w.heap.size w w5) := HB3.out.trans (HB5.out.mono HB3.out.size)
        have HR1 : Hid (∀ W cc, Below w5.heap.size w5 W → Calls Tryd.prog 18 #[.slice a2 0 cc] W fun e w' => e = .returned (.bool true) ∧ Below W.heap.size W w') := fun W cc hW => by
          have := CR.out W a2 0 cc (L.take 0) ((HT5L.out.keep hW).take 0 hHK.out) (fun x hx => .inl (List.mem_of_mem_take hx)) (by have := hHK.out; omega)
          rw [(HRD.out 0).1] at this; exact this
        have HALL : Hid (∀ W, Below w5.heap.size w5 W → Calls Tryd.prog 18 #[.slice a2 n2 c2] W fun e w' => e = .returned (.bool true) ∧ Below W.heap.size W w') := fun W hW => by
          have := CR.out W a2 n2 c2 L (HT5L.out.keep hW) (fun x hx => .inl hx) (by omega)
          have hd := (HRD.out 0).2
          rw [List.drop_zero] at hd
          rw [hd] at this; exact this
        clear HLB HN2 HT5 HB5
        cases a2 with
        | none =>
          obtain rfl := HC2.out.1 rfl
          obtain rfl : n2 = 0 := by have := HC2.out.2.1; omega
          go_wp2_with fail
          refine (HR1.out _ _ (Below.refl _ _)).mono ?_
          rintro e w6 ⟨rfl, hb6⟩
          have HB6 : Hid (Below w5.heap.size w5 w6) := hb6
          clear hb6
          go_wp2_with fail
          refine (HALL.out _ HB6.out).mono ?_
          rintro e w7 ⟨rfl, hb7⟩
          have HB7 : Hid (Below w5.heap.size w5 w7) := HB6.out.trans (hb7.mono HB6.out.size)
          clear hb7
          go_wp2_with fail
          refine (HBAD.out _ HB7.out).mono ?_
          rintro e w8 ⟨rfl, hb8⟩
          have HB8 : Hid (Below w5.heap.size w5 w8) := HB7.out.trans (hb8.mono HB7.out.size)
          clear hb8
          cases lb with
          | false =>
            go_wp2
            go_ret
            exact ⟨rfl, HW5.out.trans (HB8.out.mono HW5.out.size)⟩
          | true =>
            go_wp2
            go_ret
            exact ⟨rfl, HW5.out.trans (HB8.out.mono HW5.out.size)⟩
        | some ad =>
          obtain ⟨b, off, sp⟩ := ad
          by_cases hc0 : c2 = 0
          · subst hc0
            obtain rfl : n2 = 0 := by have := HC2.out.2.1; omega
            go_wp2_with fail
            refine (HR1.out _ _ (Below.refl _ _)).mono ?_
            rintro e w6 ⟨rfl, hb6⟩
            have HB6 : Hid (Below w5.heap.size w5 w6) := hb6
            clear hb6
            go_wp2_with fail
            refine (HALL.out _ HB6.out).mono ?_
            rintro e w7 ⟨rfl, hb7⟩
            have HB7 : Hid (Below w5.heap.size w5 w7) := HB6.out.trans (hb7.mono HB6.out.size)
            clear hb7
            go_wp2_with fail
            refine (HBAD.out _ HB7.out).mono ?_
            rintro e w8 ⟨rfl, hb8⟩
            have HB8 : Hid (Below w5.heap.size w5 w8) := HB7.out.trans (hb8.mono HB7.out.size)
            clear hb8
            cases lb with
            | false =>
              go_wp2
              go_ret
              exact ⟨rfl, HW5.out.trans (HB8.out.mono HW5.out.size)⟩
            | true =>
              go_wp2
              go_ret
              exact ⟨rfl, HW5.out.trans (HB8.out.mono HW5.out.size)⟩
          · have hc1 : ¬ (c2 : Int) = 0 := by omega
            have hc2 : (0 : Int) < (c2 : Int) := by omega
            have hc3 : (0 : Int) ≤ (n2 : Int) := by omega
            go_wp2_with fail
            refine (HR1.out _ _ (Below.refl _ _)).mono ?_
            rintro e w6 ⟨rfl, hb6⟩
            have HB6 : Hid (Below w5.heap.size w5 w6) := hb6
            clear hb6
            go_wp2_with fail
            refine (HALL.out _ HB6.out).mono ?_
            rintro e w7 ⟨rfl, hb7⟩
            have HB7 : Hid (Below w5.heap.size w5 w7) := HB6.out.trans (hb7.mono HB6.out.size)
            clear hb7
            go_wp2_with fail
            refine (HBAD.out _ HB7.out).mono ?_
            rintro e w8 ⟨rfl, hb8⟩
            have HB8 : Hid (Below w5.heap.size w5 w8) := HB7.out.trans (hb8.mono HB7.out.size)
            clear hb8
            cases lb with
            | false =>
              go_wp2
              go_ret
              exact ⟨rfl, HW5.out.trans (HB8.out.mono HW5.out.size)⟩
            | true =>
              go_wp2
              go_ret
              exact ⟨rfl, HW5.out.trans (HB8.out.mono HW5.out.size)⟩
end Go.Proofs.YtiimmknnlciljaaDoor
