/-
  PickWhole: its walk.
-/
import Derived.Test.YtnkbhojflcckmaaPkAB
namespace Go.Proofs.Ytnkbhojflcckmaa
open Go.RowKit
set_option linter.unusedSectionVars false
theorem not_lt_of {a b : ByteArray} (h : decide (cmpS a b ≤ 0) = true) : decide (cmpS b a < 0) = false := by
  have h1 := of_decide_eq_true h
  have h2 := cmpS_ord.anti b a
  exact decide_eq_false (by omega)
theorem lt_of {a b : ByteArray} (h : decide (cmpS a b ≤ 0) = false) : decide (cmpS b a < 0) = true := decide_eq_true (lt_of_not (of_decide_eq_false h))
theorem ge_no {a b : ByteArray} (h : cmpS b a ≤ 0 → False) : Op.bytesLess a.toList b.toList = true := by
  rw [less_cmpS]
  exact decide_eq_true (lt_of_not h)
theorem all_take (l : List Tb) (x : Tb) (i : Nat) (h : i < l.length) : (l.take (i + 1)).all (okP x) = ((l.take i).all (okP x) && okP x (l.getD i zT)) := by
  rw [List.take_succ_eq_append_getElem h, List.all_append, getD_at l i zT h]
  simp
set_option maxRecDepth 100000 in
set_option maxHeartbeats 4000000 in
theorem whole_walk (ao : Option Addr) (n c : Nat) (ts : List Tb) (w : World) (hE : TabsV w ao n ts) (hn : n ≤ 9223372036854775807) :
    Calls Try.prog 5 #[.slice ao n c] w fun e w' => e = .returned (.bool true) ∧ Below w.heap.size w w' := by
  have HE : Hid (∀ V, Below w.heap.size w V → TabsV V ao n ts) := fun V hV => hE.keep hV
  have C0 : Hid _ := shown_any w
  obtain ⟨R, HR⟩ : ∃ R, Hid (rightL ts = R) := ⟨_, rfl⟩
  have HRL : Hid (R.length ≤ 600) := by show _ ≤ _; rw [← HR.out]; exact right_len ts
  have HRR : Hid (∀ x ∈ R, RightT x) := by rw [← HR.out]; exact fun x hx => right_mem hx
  clear hE
  go_enter Try.func5, Try.ntmps5
  go_wp2_with fail
  refine Calls.mono C0.out ?_
  rintro e w1 ⟨rfl, hb1⟩
  have HB1 : Hid (Below w.heap.size w w1) := hb1
  have C1 : Hid _ := right_any ao n c ts w1 (HE.out w1 hb1) hn
  rw [HR.out] at C1
  clear hb1 C0
  go_wp2_with fail
  refine Calls.mono C1.out ?_
  rintro e w2 ⟨v, rfl, hown2, hb2⟩
  obtain ⟨rn, HRN⟩ : ∃ k, Hid (R.length = k) := ⟨_, rfl⟩
  rw [HRN.out] at hown2 HRL
  obtain ⟨ra, rc, rfl, hrv, -⟩ := own_tabsV hown2
  have HRV : Hid (TabsV w2 ra rn R) := hrv
  have HB2 : Hid (Below w.heap.size w w2) := HB1.out.trans (hb2.mono HB1.out.size)
  clear hown2 hb2 hrv C1
  go_wp2
  go_loopw [0, 5, 6, 7] (fun o x _ _ wr => ∃ i : Nat, x = .int .i64 i ∧ i ≤ rn ∧ wr.ownsRow w2.heap.size 32 36 o (freeN R i).length (flatT (freeN R i)) ∧ Below w2.heap.size w2 wr) (fun _ x _ _ _ => rn - (intOf x).toNat)
  case atStart => exact ⟨0, rfl, by omega, World.ownsRow_nil _ _ _ _, Below.refl _ _⟩
  case round =>
    obtain ⟨i, rfl, hin, hown, hbel⟩ := hrel
    have HOW : Hid (wr.ownsRow w2.heap.size 32 36 u0 (freeN R i).length (flatT (freeN R i)) ∧ Below w2.heap.size w2 wr) := And.intro hown hbel
    clear hown hbel
    obtain ⟨F, HF⟩ : ∃ F, Hid (freeN R i = F) := ⟨_, rfl⟩
    have HFL : Hid (F.length ≤ 600) := by show _ ≤ _; rw [← HF.out]; have := freeN_len R i; have := HRL.out; omega
    have HSU : Hid _ := freeN_succ R i
    rw [HF.out] at HOW HSU
    by_cases hi : i < rn
    · have hiz : (i : Int) < (rn : Int) := by omega
      have hi6 : (i : Int) < 601 := by have := HRL.out; omega
      obtain ⟨x, HX⟩ : ∃ x, Hid (R.getD i zT = x) := ⟨_, rfl⟩
      rw [HX.out] at HSU
      obtain ⟨fo, fc, rfl, hfv, -⟩ := own_tabsV HOW.out.1
      obtain ⟨fn, HFN⟩ : ∃ k, Hid (F.length = k) := ⟨_, rfl⟩
      have HFV : Hid (TabsV wr fo fn F) := by show TabsV _ _ _ _; rw [← HFN.out]; exact hfv
      rw [HFN.out] at HFL HOW
      rw [HFN.out]
      clear hfv
      obtain ⟨wo, hwo⟩ : ∃ W, W = wr := ⟨_, rfl⟩
      subst hwo
      go_wp2
      go_loopw [6, 7] (fun fr kx wr => ∃ k : Nat, kx = .int .i64 k ∧ k ≤ fn ∧ fr = .bool ((F.take k).all (okP x)) ∧ Below wo.heap.size wo wr) (fun _ x _ => fn - (intOf x).toNat)
      case atStart => exact ⟨0, rfl, by omega, by simp, Below.refl _ _⟩
      case round =>
        obtain ⟨k, rfl, hkn, rfl, hbel⟩ := hrel
        have HBL : Hid (Below wo.heap.size wo wr) := hbel
        by_cases hk : k < fn
        · have hkz : (k : Int) < (fn : Int) := by omega
          have hk6 : (k : Int) < 601 := by have := HFL.out; omega
          obtain ⟨b, off, hao, hEn⟩ := ((HRV.out.keep HOW.out.2).keep hbel).2 (by omega)
          obtain ⟨b2, off2, hfo, hEn2⟩ := (HFV.out.keep hbel).2 (by omega)
          obtain ⟨y, HY⟩ : ∃ y, Hid (F.getD k zT = y) := ⟨_, rfl⟩
          obtain ⟨c0, -, c3, c4⟩ := range_four (tabs_range hEn i (by have := HRN.out; omega) HX.out)
          obtain ⟨d0, -, d3, d4⟩ := range_four (tabs_range hEn2 k (by have := HFN.out; omega) HY.out)
          have HAT : Hid _ := all_take F x k (by have := HFN.out; omega)
          rw [HY.out] at HAT
          obtain ⟨fr, HFR⟩ : ∃ fr, Hid ((F.take k).all (okP x) = fr) := ⟨_, rfl⟩
          rw [HFR.out] at HAT
          rw [HFR.out]
          subst hao hfo
          clear hEn hEn2 hbel
          cases fr with
          | false =>
            have HNX : Hid ((F.take (k + 1)).all (okP x) = false) := by show _ = _; rw [HAT.out]; rfl
            clear c0 c3 c4 d0 d3 d4 HAT
            go_wp2_with fail
            go_quiet (fail)
            go_wp2
            go_roundw
            case rel => exact ⟨k + 1, by go_num, by omega, by rw [HNX.out], bel_drewN HBL.out nq⟩
            case measure => simp [intOf]; omega
          | true =>
            by_cases e0 : x.lv = 0
            · have z0 : (x.lv == (0 : Int)) = true := by simpa using e0
              have HRS : Hid (okP x y = true) := by show _ = _; unfold okP; rw [z0]; rfl
              have HNX : Hid ((F.take (k + 1)).all (okP x) = true) := by show _ = _; rw [HAT.out, HRS.out]; rfl
              have HZ0 : Hid _ := z0
              clear c3 c4 d0 d3 d4 HAT e0
              go_wp2_with fail
              go_quiet (fail)
              go_wp2
              go_roundw
              case rel => exact ⟨k + 1, by go_num, by omega, by rw [HNX.out], bel_drewN HBL.out nq⟩
              case measure => simp [intOf]; omega
            · have z0 : (x.lv == (0 : Int)) = false := by simpa using e0
              by_cases e1 : y.lv = x.lv
              · have z1 : (y.lv == x.lv) = true := by simpa using e1
                have z1n : (y.lv != x.lv) = false := by rw [bne, z1]; rfl
                have hl1 := less_cmpS y.last x.first
                by_cases g1 : cmpS y.last x.first < 0
                · rw [decide_eq_true g1] at hl1
                  have HRS : Hid (okP x y = true) := by show _ = _; unfold okP; rw [z0, z1, decide_eq_true g1]; rfl
                  have HNX : Hid ((F.take (k + 1)).all (okP x) = true) := by show _ = _; rw [HAT.out, HRS.out]; rfl
                  clear HAT e0 e1 g1 c4 d3
                  go_wp2_with fail
                  go_quiet (fail)
                  go_wp2
                  go_roundw
                  case rel => exact ⟨k + 1, by go_num, by omega, by rw [HNX.out], bel_drewN HBL.out nq⟩
                  case measure => simp [intOf]; omega
                · rw [decide_eq_false g1] at hl1
                  rcases le_cases y.first x.last with ⟨a1, a3⟩ | ⟨a1, a2, a3⟩ | ⟨a1, a2, a3⟩
                  · have HG2 : Hid (decide (cmpS x.last y.first < 0) = false) := not_lt_of a3
                    have HRS : Hid (okP x y = false) := by show _ = _; unfold okP; rw [z0, z1, decide_eq_false g1, HG2.out]; rfl
                    have HNX : Hid ((F.take (k + 1)).all (okP x) = false) := by show _ = _; rw [HAT.out, HRS.out]; rfl
                    clear HAT e0 e1 g1 a3
                    go_wp2_with fail
                    go_quiet (fail)
                    go_wp2
                    go_roundw
                    case rel => exact ⟨k + 1, by go_num, by omega, by rw [HNX.out], bel_drewN HBL.out nq⟩
                    case measure => simp [intOf]; omega
                  · have HG2 : Hid (decide (cmpS x.last y.first < 0) = false) := not_lt_of a3
                    have HRS : Hid (okP x y = false) := by show _ = _; unfold okP; rw [z0, z1, decide_eq_false g1, HG2.out]; rfl
                    have HNX : Hid ((F.take (k + 1)).all (okP x) = false) := by show _ = _; rw [HAT.out, HRS.out]; rfl
                    clear HAT e0 e1 g1 a3
                    go_wp2_with fail
                    go_quiet (fail)
                    go_wp2
                    go_roundw
                    case rel => exact ⟨k + 1, by go_num, by omega, by rw [HNX.out], bel_drewN HBL.out nq⟩
                    case measure => simp [intOf]; omega
                  · have HG2 : Hid (decide (cmpS x.last y.first < 0) = true) := lt_of a3
                    have HRS : Hid (okP x y = true) := by show _ = _; unfold okP; rw [z0, z1, decide_eq_false g1, HG2.out]; rfl
                    have HNX : Hid ((F.take (k + 1)).all (okP x) = true) := by show _ = _; rw [HAT.out, HRS.out]; rfl
                    clear HAT e0 e1 g1 a3
                    go_wp2_with fail
                    go_quiet (fail)
                    go_wp2
                    go_roundw
                    case rel => exact ⟨k + 1, by go_num, by omega, by rw [HNX.out], bel_drewN HBL.out nq⟩
                    case measure => simp [intOf]; omega
              · have z1 : (y.lv == x.lv) = false := by simpa using e1
                have z1n : (y.lv != x.lv) = true := by rw [bne, z1]; rfl
                have HRS : Hid (okP x y = true) := by show _ = _; unfold okP; rw [z0, z1]; rfl
                have HNX : Hid ((F.take (k + 1)).all (okP x) = true) := by show _ = _; rw [HAT.out, HRS.out]; rfl
                clear HAT e0 e1 c3 c4 d3 d4
                go_wp2_with fail
                go_quiet (fail)
                go_wp2
                go_roundw
                case rel => exact ⟨k + 1, by go_num, by omega, by rw [HNX.out], bel_drewN HBL.out nq⟩
                case measure => simp [intOf]; omega
        · have hkz : ¬ (k : Int) < (fn : Int) := by omega
          obtain rfl : k = fn := by omega
          have HTK : Hid (F.take k = F) := List.take_of_length_le (by have := HFN.out; omega)
          rw [HTK.out]
          have HOW2 : Hid (wr.ownsRow w2.heap.size 32 36 (.slice fo k fc) k (flatT F) ∧ Below w2.heap.size w2 wr) := ⟨own_below HOW.out.1 hbel (Nat.le_refl _), HOW.out.2.trans (hbel.mono HOW.out.2.size)⟩
          obtain ⟨b, off, hao, hEn⟩ := (HRV.out.keep HOW2.out.2).2 (by omega)
          have HRX : Hid (wr.rangeAt b (off + i * 36) (encT x)) := tabs_range hEn i (by have := HRN.out; omega) HX.out
          subst hao
          clear hEn hbel
          cases hall : F.all (okP x) with
          | true =>
            have HSN : Hid (freeN R (i + 1) = F ++ [x]) := by show _ = _; rw [HSU.out, hall]; rfl
            have HO5 : Hid ((wr.alloc (.cells (encT x).toArray 32)).ownsRow w2.heap.size 32 36 (.slice fo k fc) k (flatT F)) := HOW2.out.1.alloc _
            have HS5 : Hid (w2.heap.size ≤ (wr.alloc (.cells (encT x).toArray 32)).heap.size) := by show _ ≤ _; have := HOW2.out.2.size; simp; omega
            clear hall HSU
            go_upto_region 13 with fail
            go_wp2_with (first | (refine wpList_load_mid rfl 32 (.tmp 86) rfl b (off + i * 36) rfl (encT x) _ HRX.out Try.underlying32 rfl (sizeT x) ?_) | (refine wpList_build_tab _ rfl (.tmp 87) rfl x rfl ?_) | (at_builtin; refine wpList_append_tabs _ rfl (.tmp 83) (.tmp 88) rfl w2.heap.size _ k F rfl HO5.out HS5.out _ 1 1 [x] rfl (tabsV_one wr x) (fun h => by cases h) (by have := HFL.out; omega) ?_))
            intro v' w6 hown6 hb6
            have HN : Hid (w6.ownsRow w2.heap.size 32 36 v' (F ++ [x]).length (flatT (F ++ [x])) ∧ Below w2.heap.size w2 w6) := And.intro (by simpa using hown6) ((HOW2.out.2.alloc HOW2.out.2.size _).trans hb6)
            clear hown6 hb6
            go_wp2
            go_roundw
            case rel => exact ⟨i + 1, by go_num, by omega, by rw [HSN.out]; exact HN.out.1, HN.out.2⟩
            case measure => simp [intOf]; omega
          | false =>
            have HSN : Hid (freeN R (i + 1) = F) := by show _ = _; rw [HSU.out, hall]; rfl
            clear hall HSU
            go_wp2
            go_roundw
            case rel => exact ⟨i + 1, by go_num, by omega, by rw [HSN.out, HFN.out]; exact HOW2.out.1, HOW2.out.2⟩
            case measure => simp [intOf]; omega
    · have hiz : ¬ (i : Int) < (rn : Int) := by omega
      obtain rfl : i = rn := by omega
      obtain ⟨T, HT⟩ : ∃ T, Hid (freeN R i = T) := ⟨_, rfl⟩
      have hFT : F = T := by rw [← HF.out, HT.out]
      subst hFT
      have HAP : Hid (ApartT F) := by show ApartT F; rw [← HT.out]; exact free_apart R i
      have HTR : Hid (∀ x ∈ F, RightT x) := fun x hx => HRR.out x (by rw [← HT.out] at hx; exact freeN_mem i (by have := HRN.out; omega) x hx)
      obtain ⟨n2, HN2⟩ : ∃ k, Hid (F.length = k) := ⟨_, rfl⟩
      rw [HN2.out] at HFL HOW
      obtain ⟨oo, oc, rfl, hov, -⟩ := own_tabsV HOW.out.1
      have HOV : Hid (TabsV wr oo n2 F) := hov
      have HBW : Hid (Below w.heap.size w wr) := HB2.out.trans (HOW.out.2.mono HB2.out.size)
      have C2 : Hid _ := pick_any oo n2 oc F wr hov (by have := HFL.out; omega)
      obtain ⟨w2b, hw2b⟩ : ∃ W, W = wr := ⟨_, rfl⟩
      subst hw2b
      clear hov HSU HOW HF
      obtain ⟨q, HQ⟩ : ∃ q, Hid ((pkL F).length = q) := ⟨_, rfl⟩
      go_wp2_with fail
      refine Calls.mono C2.out ?_
      rintro e w3 ⟨r3, k3, rfl, hi3, hb3⟩
      rw [HQ.out] at hi3 ⊢
      have HI3 : Hid (IntsV w3 r3 q (pkL F)) := hi3
      have HB3 : Hid (Below w.heap.size w w3) := HBW.out.trans (hb3.mono HBW.out.size)
      have HOV3 : Hid (TabsV w3 oo n2 F) := HOV.out.keep hb3
      have HOF : Hid (∀ V (m : Nat), Below w3.heap.size w3 V → Calls Try.prog 17 #[.slice oo n2 oc, .int .i64 (m : Int)] V fun e w' => e = .returned (.int .i64 ((cntN F m n2 : Nat) : Int)) ∧ w' = V) := fun V m hV => of_any oo n2 oc F V (HOV3.out.keep hV) (by have := HFL.out; omega) m
      clear hi3 hb3 C2
      cases hp : pickF F with
      | none =>
        obtain ⟨p1, p2, p3⟩ := pk_none hp
        have HCP : Hid (∀ m : Nat, m < 3 → (cntN F m n2 : Int) ≤ capI m) := fun m hm => by have := none_caps hp m hm; rw [HN2.out] at this; exact this
        rw [p2, p3]
        clear hp p1 p2 p3
        go_wp2
        go_loopw [11] (fun x wr => ∃ m : Nat, x = .int .i64 m ∧ m ≤ 3 ∧ wr = w3) (fun x _ => 3 - (intOf x).toNat)
        case atStart => exact ⟨0, rfl, by omega, rfl⟩
        case round =>
          obtain ⟨m, rfl, hm3, rfl⟩ := hrel
          by_cases hm : m < 3
          · have hmz : (m : Int) < 3 := by omega
            have hcp := HCP.out m hm
            have O1 : Hid _ := HOF.out wr m (Below.refl _ _)
            have K1 : Hid _ := cap_any m wr
            obtain ⟨cv, HCV⟩ : ∃ z, Hid (cntN F m n2 = z) := ⟨_, rfl⟩
            obtain ⟨cp, HCPV⟩ : ∃ z, Hid (capI (m : Int) = z) := ⟨_, rfl⟩
            rw [HCV.out] at O1 hcp
            rw [HCPV.out] at K1 hcp
            have hgt : decide (cp < (cv : Int)) = false := decide_eq_false (by omega)
            go_wp2_with fail
            refine Calls.mono O1.out ?_
            rintro e wa ⟨rfl, hwa⟩
            subst hwa
            go_wp2_with fail
            refine Calls.mono K1.out ?_
            rintro e wb ⟨rfl, hwb⟩
            subst hwb
            clear O1 K1
            go_wp2
            go_roundw
            case rel => exact ⟨m + 1, by go_num, by omega, trivial⟩
            case measure => simp [intOf]; omega
          · have hmz : ¬ (m : Int) < 3 := by omega
            obtain rfl : m = 3 := by omega
            go_wp2
            go_ret
            exact ⟨rfl, HB3.out⟩
      | some f =>
        have HPF : Hid (pickF F = some f) := hp
        have hf3 : f < 3 := pickF_lt hp
        obtain ⟨p1, p2, p3⟩ := pk_of hp
        obtain ⟨L, HL⟩ : ∃ L, Hid (inL F f = L) := ⟨_, rfl⟩
        have HLR : Hid (L.Pairwise (· < ·)) := by show List.Pairwise _ _; rw [← HL.out]; exact inL_rises F f
        have HLB : Hid (∀ j ∈ L, j < n2) := fun j hj => by rw [← HN2.out]; rw [← HL.out] at hj; exact (mem_inN.1 hj).1
        rw [p1, HL.out] at HI3 HQ
        rw [p2, p3]
        have hf1 : ((f + 1 : Nat) : Int) = (f : Int) + 1 := by omega
        rw [hf1]
        have HQL : Hid (q ≤ n2) := by show q ≤ n2; rw [← HQ.out, ← HL.out, ← HN2.out]; exact inN_le F f F.length
        have HQ1 : Hid (0 < q) := by show 0 < q; rw [← HQ.out, ← HL.out]; exact inL_pos hp
        have HFM : Hid _ := fresh_math hp
        rw [HL.out] at HFM
        have hq0 : ((q : Int) == 0) = false := by have := HQ1.out; simp; omega
        clear hp p1 p2 p3 hf1
        go_wp2
        go_loopw [12] (fun x wr => ∃ p : Nat, x = .int .i64 p ∧ p ≤ q ∧ wr = w3) (fun x _ => q - (intOf x).toNat)
        case atStart => exact ⟨0, rfl, by omega, rfl⟩
        case round =>
          obtain ⟨p, rfl, hpq, rfl⟩ := hrel
          by_cases hp : p < q
          · have hpz : (p : Int) < (q : Int) := by omega
            have hp6 : (p : Int) < 601 := by have := HQL.out; have := HFL.out; omega
            obtain ⟨k, HK⟩ : ∃ k, Hid (L.getD p 0 = k) := ⟨_, rfl⟩
            have hkn2 : k < n2 := by rw [← HK.out]; exact HLB.out _ (getD_memN (by have := HQ.out; omega))
            obtain ⟨b, off, hro, hca⟩ := HI3.out.2 (by omega)
            have e1 := hca p hp
            rw [HK.out] at e1
            have hk1 : (k : Int) < (n2 : Int) := by omega
            have hk2 : decide ((n2 : Int) ≤ (k : Int)) = false := decide_eq_false (by omega)
            have hk3 : decide (n2 ≤ k) = false := decide_eq_false (by omega)
            have h0x : decide ((k : Int) < 0) = false := decide_eq_false (by omega)
            subst hro
            clear hca hkn2
            go_wp2
            go_roundw
            case rel => exact ⟨p + 1, by go_num, by omega, trivial⟩
            case measure => simp [intOf]; omega
          · have hpz : ¬ (p : Int) < (q : Int) := by omega
            obtain rfl : p = q := by omega
            obtain ⟨w3b, hw3b⟩ : ∃ W, W = wr := ⟨_, rfl⟩
            subst hw3b
            go_upto_region 29 with fail
            go_wp2_with (refine wpList_make_flags _ rfl (.tmp 133) (.tmp 133) rfl n2 (by have := HFL.out; omega) rfl rfl ?_)
            intro w4 hfl4 hb4
            have HFL4 : Hid (FlagB w4 w3b.heap.size (pkd L n2 0)) := by rw [pkd_zero]; exact hfl4
            have HB4 : Hid (Below w3b.heap.size w3b w4) := hb4
            obtain ⟨k0, HK0⟩ : ∃ k, Hid (L.getD 0 0 = k) := ⟨_, rfl⟩
            have hL0 : 0 < L.length := by have := HQ.out; have := HQ1.out; omega
            have hk0n : k0 < n2 := by rw [← HK0.out]; exact HLB.out _ (getD_memN hL0)
            obtain ⟨b, off, hro, hca⟩ := (HI3.out.keep hb4).2 HQ1.out
            obtain ⟨b2, off2, hoo, hEn⟩ := (HOV3.out.keep hb4).2 (by omega)
            obtain ⟨x0, HX0⟩ : ∃ x, Hid (F.getD k0 zT = x) := ⟨_, rfl⟩
            obtain ⟨-, -, c3, c4⟩ := range_four (tabs_range hEn k0 (by have := HN2.out; omega) HX0.out)
            have e1 := hca 0 HQ1.out
            rw [HK0.out] at e1
            rw [Nat.add_zero] at e1
            have hk1 : (k0 : Int) < (n2 : Int) := by omega
            have hq1 : (0 : Int) < (p : Int) := by have := HQ1.out; omega
            have HFZ : Hid (frL F L 0 = x0.first ∧ frH F L 0 = x0.last) := by show _ ∧ _; rw [frL_zero F hL0, frH_zero F hL0, HK0.out, HX0.out]; exact ⟨rfl, rfl⟩
            subst hro hoo
            clear hfl4 hb4 hca hEn hk0n hL0
            go_wp2_with fail
            go_quiet (fail)
            have HB5 : Hid (Below w3b.heap.size w3b (w4.drewN nq)) := bel_drewN HB4.out nq
            have HFL5 : Hid (FlagB (w4.drewN nq) w3b.heap.size (pkd L n2 0)) := HFL4.out.keep (bel_drewN (Below.refl _ _) nq)
            clear c3 c4 e1 HB4 HFL4
            generalize w4.drewN nq = w5 at *
            go_wp2
            go_loopw [14, 15, 16, 17] (fun lo hi fr kx wr => ∃ i : Nat, kx = .int .i64 i ∧ i ≤ p ∧ lo = .string (frL F L i) ∧ hi = .string (frH F L i) ∧ fr = .int .i64 ((upC F 0 (L.take i) : Nat) : Int) ∧ FlagB wr w3b.heap.size (pkd L n2 i) ∧ Below w3b.heap.size w3b wr) (fun _ _ _ kx _ => p - (intOf kx).toNat)
            case atStart => exact ⟨0, rfl, by omega, by rw [HFZ.out.1], by rw [HFZ.out.2], rfl, HFL5.out, HB5.out⟩
            case round =>
              obtain ⟨i, rfl, hiq, rfl, rfl, rfl, hfl, hbel⟩ := hrel
              have HFB : Hid (FlagB wr w3b.heap.size (pkd L n2 i)) := hfl
              have HBL : Hid (Below w3b.heap.size w3b wr) := hbel
              by_cases hi : i < p
              · have hiz : (i : Int) < (p : Int) := by omega
                have hi6 : (i : Int) < 601 := by have := HQL.out; have := HFL.out; omega
                have hiL : i < L.length := by have := HQ.out; omega
                obtain ⟨k, HK⟩ : ∃ k, Hid (L.getD i 0 = k) := ⟨_, rfl⟩
                have hkn2 : k < n2 := by rw [← HK.out]; exact HLB.out _ (getD_memN hiL)
                have hk1 : (k : Int) < (n2 : Int) := by omega
                obtain ⟨x, HX⟩ : ∃ x, Hid (F.getD k zT = x) := ⟨_, rfl⟩
                have HLN : Hid (frL F L (i + 1) = minS (frL F L i) x.first) := by show _ = _; rw [frL_succ F hiL, HK.out, HX.out]
                have HHN : Hid (frH F L (i + 1) = maxS (frH F L i) x.last) := by show _ = _; rw [frH_succ F hiL, HK.out, HX.out]
                have HUN : Hid (upC F 0 (L.take (i + 1)) = if x.lv = 0 then upC F 0 (L.take i) + 1 else upC F 0 (L.take i)) := by show _ = _; rw [take_getD L i hiL, upC_snoc, HK.out, HX.out]; rfl
                have hub : upC F 0 (L.take i) < 601 := by have := upC_le F 0 (L.take i); rw [List.length_take] at this; omega
                obtain ⟨lo, HLO⟩ : ∃ z, Hid (frL F L i = z) := ⟨_, rfl⟩
                obtain ⟨hi', HHI⟩ : ∃ z, Hid (frH F L i = z) := ⟨_, rfl⟩
                obtain ⟨u0', HU0⟩ : ∃ z, Hid (upC F 0 (L.take i) = z) := ⟨_, rfl⟩
                rw [HLO.out] at HLN
                rw [HHI.out] at HHN
                rw [HU0.out] at HUN hub
                rw [HLO.out, HHI.out, HU0.out]
                have e1 : wr.cell? ⟨b, off + i, none⟩ = some (.int .i64 (k : Int)) := by
                  obtain ⟨b9, o9, h9, h8⟩ := (HI3.out.keep hbel).2 (by omega)
                  cases h9
                  have := h8 i hi
                  rwa [HK.out] at this
                have f1 : wr.cell? ⟨w3b.heap.size, k, none⟩ = some (.bool ((pkd L n2 i).getD k false)) := hfl.at_ (by rw [pkd_len]; exact hkn2)
                have f2 : wr.frozen? ⟨w3b.heap.size, k, none⟩ = false := hfl.frozen k
                have HKN : Hid _ := hkn2
                clear hfl hbel hiL hkn2
                go_upto_region 36 with fail
                have HF5 : Hid (FlagB (wr.setCell ⟨w3b.heap.size, k, none⟩ (.bool true)) w3b.heap.size (pkd L n2 (i + 1)) ∧ Below w3b.heap.size w3b (wr.setCell ⟨w3b.heap.size, k, none⟩ (.bool true))) := by
                  refine And.intro ?_ (HFB.out.bel HBL.out (Nat.le_refl _))
                  have h9 : (pkd L n2 i).set k true = pkd L n2 (i + 1) := by rw [← HK.out]; exact pkd_set L n2 i (by have := HQ.out; omega)
                  rw [← h9]
                  exact HFB.out.set
                clear e1 f1 f2 HFB HBL
                generalize wr.setCell ⟨w3b.heap.size, k, none⟩ (.bool true) = w6 at *
                have e1 : w6.cell? ⟨b, off + i, none⟩ = some (.int .i64 (k : Int)) := by
                  obtain ⟨b9, o9, h9, h8⟩ := (HI3.out.keep HF5.out.2).2 (by omega)
                  cases h9
                  have := h8 i hi
                  rwa [HK.out] at this
                obtain ⟨c0, c3, c4⟩ : w6.cell? ⟨b2, off2 + k * 36, none⟩ = some (.int .i64 x.lv) ∧ w6.cell? ⟨b2, off2 + k * 36 + 34, none⟩ = some (.string x.first) ∧ w6.cell? ⟨b2, off2 + k * 36 + 35, none⟩ = some (.string x.last) := by
                  obtain ⟨b9, o9, h9, hEn⟩ := (HOV3.out.keep HF5.out.2).2 (by have := HKN.out; omega)
                  cases h9
                  have := range_four (tabs_range hEn k (by have := HN2.out; have := HKN.out; omega) HX.out)
                  exact ⟨this.1, this.2.2.1, this.2.2.2⟩
                go_wp2_with fail
                rw [run_min_str]
                simp only [Result.andThen]
                rw [Oper.upon_value]
                go_upto_region 37 with fail
                go_wp2_with fail
                rw [run_max_str]
                simp only [Result.andThen]
                rw [Oper.upon_value]
                go_upto_region 38 with fail
                clear c3 c4
                by_cases e0 : x.lv = 0
                · have z0 : (x.lv == (0 : Int)) = true := by simpa using e0
                  have HU2 : Hid (upC F 0 (L.take (i + 1)) = u0' + 1) := by show _ = _; rw [HUN.out, if_pos e0]
                  have HZ0 : Hid _ := e0
                  clear e0 HUN
                  go_wp2
                  go_roundw
                  case rel => exact ⟨i + 1, by go_num, by omega, by rw [HLN.out], by rw [HHN.out], by rw [HU2.out]; go_num, HF5.out.1, HF5.out.2⟩
                  case measure => simp [intOf]; omega
                · have z0 : (x.lv == (0 : Int)) = false := by simpa using e0
                  have HU2 : Hid (upC F 0 (L.take (i + 1)) = u0') := by show _ = _; rw [HUN.out, if_neg e0]
                  clear e0 HUN
                  go_wp2
                  go_roundw
                  case rel => exact ⟨i + 1, by go_num, by omega, by rw [HLN.out], by rw [HHN.out], by rw [HU2.out], HF5.out.1, HF5.out.2⟩
                  case measure => simp [intOf]; omega
              · have hiz : ¬ (i : Int) < (p : Int) := by omega
                obtain rfl : i = p := by omega
                have HLT : Hid (L.take i = L) := List.take_of_length_le (by have := HQ.out; omega)
                have HLL : Hid (L.length = i) := HQ.out
                have HFE : Hid (FlagB wr w3b.heap.size ((List.range n2).map (inB F f))) := by
                  show FlagB _ _ _
                  have h1 := pkd_all F f
                  rw [HL.out, HN2.out, HQ.out] at h1
                  rw [← h1]; exact HFB.out
                have HFA : Hid (frL F L i = loT (tabsAt F L) ∧ frH F L i = hiT (tabsAt F L)) := by
                  show _ ∧ _
                  have := fr_all F (L := L) (by have := HQ1.out; have := HQ.out; omega)
                  rw [HLL.out] at this; exact this
                have HWM : Hid (∀ j, j < n2 → inB F f j = false → (F.getD j zT).lv = (f : Int) + 1 → ¬ (cmpS (F.getD j zT).first (frH F L i) ≤ 0 ∧ cmpS (frL F L i) (F.getD j zT).last ≤ 0)) := fun j hj hn hl h => by
                  rw [HFA.out.1, HFA.out.2, ← HL.out] at h
                  exact whole_math HAP.out HTR.out (by rw [HN2.out]; exact hj) hn hl h.1 h.2
                obtain ⟨lo, HLO⟩ : ∃ z, Hid (frL F L i = z) := ⟨_, rfl⟩
                obtain ⟨hi', HHI⟩ : ∃ z, Hid (frH F L i = z) := ⟨_, rfl⟩
                rw [HLO.out, HHI.out] at HWM
                rw [HLO.out, HHI.out, HLT.out]
                obtain ⟨w7, hw7⟩ : ∃ W, W = wr := ⟨_, rfl⟩
                subst hw7
                clear hfl hbel HFB HFA
                go_wp2
                go_loopw [18] (fun kx wr => ∃ j : Nat, kx = .int .i64 j ∧ j ≤ n2 ∧ wr = w7) (fun kx _ => n2 - (intOf kx).toNat)
                case atStart => exact ⟨0, rfl, by omega, rfl⟩
                case round =>
                  obtain ⟨j, rfl, hjn, rfl⟩ := hrel
                  by_cases hj : j < n2
                  · have hjz : (j : Int) < (n2 : Int) := by omega
                    have hj6 : (j : Int) < 601 := by have := HFL.out; omega
                    obtain ⟨x, HX⟩ : ∃ x, Hid (F.getD j zT = x) := ⟨_, rfl⟩
                    obtain ⟨c0, c3, c4⟩ : wr.cell? ⟨b2, off2 + j * 36, none⟩ = some (.int .i64 x.lv) ∧ wr.cell? ⟨b2, off2 + j * 36 + 34, none⟩ = some (.string x.first) ∧ wr.cell? ⟨b2, off2 + j * 36 + 35, none⟩ = some (.string x.last) := by
                      obtain ⟨b9, o9, h9, hEn⟩ := (HOV3.out.keep HBL.out).2 (by omega)
                      cases h9
                      have := range_four (tabs_range hEn j (by have := HN2.out; omega) HX.out)
                      exact ⟨this.1, this.2.2.1, this.2.2.2⟩
                    have f1 : wr.cell? ⟨w3b.heap.size, j, none⟩ = some (.bool (inB F f j)) := by
                      have := HFE.out.at_ (i := j) (by simp; exact hj)
                      rw [this]
                      simp [hj]
                    have HWJ : Hid _ := HWM.out j hj
                    rw [HX.out] at HWJ
                    cases hib : inB F f j with
                    | true =>
                      rw [hib] at f1
                      clear hib HWJ c0 c3 c4
                      go_wp2
                      go_roundw
                      case rel => exact ⟨j + 1, by go_num, by omega, trivial⟩
                      case measure => simp [intOf]; omega
                    | false =>
                      rw [hib] at f1
                      have HW2 : Hid _ := HWJ.out hib
                      by_cases e0 : x.lv = (f : Int) + 1
                      · have z0 : (x.lv == (f : Int) + 1) = true := by simpa using e0
                        have HW3 : Hid _ := HW2.out e0
                        rcases le_cases x.first hi' with ⟨a1, a3⟩ | ⟨a1, a2, a3⟩ | ⟨a1, a2, a3⟩
                        · have hL : Op.bytesLess x.last.toList lo.toList = true := ge_no (fun h => HW3.out ⟨of_decide_eq_true a3, h⟩)
                          clear hib e0 a3
                          go_wp2
                          go_roundw
                          case rel => exact ⟨j + 1, by go_num, by omega, trivial⟩
                          case measure => simp [intOf]; omega
                        · have hL : Op.bytesLess x.last.toList lo.toList = true := ge_no (fun h => HW3.out ⟨of_decide_eq_true a3, h⟩)
                          clear hib e0 a3
                          go_wp2
                          go_roundw
                          case rel => exact ⟨j + 1, by go_num, by omega, trivial⟩
                          case measure => simp [intOf]; omega
                        · clear hib e0 a3 c4
                          go_wp2
                          go_roundw
                          case rel => exact ⟨j + 1, by go_num, by omega, trivial⟩
                          case measure => simp [intOf]; omega
                      · have z0 : (x.lv == (f : Int) + 1) = false := by simpa using e0
                        clear hib e0 c3 c4
                        go_wp2
                        go_roundw
                        case rel => exact ⟨j + 1, by go_num, by omega, trivial⟩
                        case measure => simp [intOf]; omega
                  · have hjz : ¬ (j : Int) < (n2 : Int) := by omega
                    obtain rfl : j = n2 := by omega
                    have HBE : Hid (Below w.heap.size w wr) := HB3.out.trans (HBL.out.mono HB3.out.size)
                    have O1 : Hid _ := HOF.out wr 0 HBL.out
                    have HC0 : Hid (cntN F ((0 : Nat) : Int) j = cnt F 0) := by show _ = _; rw [← HN2.out]; exact cntN_all F 0
                    rw [HC0.out] at O1
                    have hcb : cnt F 0 < 601 := by have h1 := cntN_le F 0 j; have h2 := HC0.out; have h3 := HFL.out; rw [← h2]; exact Nat.lt_of_le_of_lt h1 (by omega)
                    obtain ⟨cv, HCV⟩ : ∃ z, Hid (cnt F 0 = z) := ⟨_, rfl⟩
                    obtain ⟨uv, HUV⟩ : ∃ z, Hid (upC F 0 L = z) := ⟨_, rfl⟩
                    rw [HCV.out, HUV.out] at HFM
                    rw [HCV.out] at O1
                    rw [HUV.out]
                    clear hcb
                    rcases HFM.out with h0 | ⟨h0, h1⟩
                    · have hz : ((uv : Int) == 0) = true := by simp; omega
                      clear h0
                      go_wp2
                      go_ret
                      exact ⟨rfl, HBE.out⟩
                    · have hz1 : ((f : Int) + 1 == 1) = true := by simp; omega
                      have HH0 : Hid (cv = uv) := h0.symm
                      rw [HH0.out] at O1
                      clear h0 h1
                      by_cases hu : uv = 0
                      · have hz : ((uv : Int) == 0) = true := by simp; omega
                        clear hu
                        go_wp2
                        go_ret
                        exact ⟨rfl, HBE.out⟩
                      · have hz : ((uv : Int) == 0) = false := by simp; omega
                        have hzz : ((uv : Int) == (uv : Int)) = true := by simp
                        clear hu
                        go_wp2_with fail
                        refine Calls.mono O1.out ?_
                        rintro e wa ⟨rfl, hwa⟩
                        subst hwa
                        go_wp2
                        go_ret
                        exact ⟨rfl, HBE.out⟩
end Go.Proofs.Ytnkbhojflcckmaa
