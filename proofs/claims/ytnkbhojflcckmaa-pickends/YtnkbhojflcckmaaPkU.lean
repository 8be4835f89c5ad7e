/-
  What the document's own Pick answers: its walk.
-/
import Derived.Test.YtnkbhojflcckmaaPkT
namespace Go.Proofs.Ytnkbhojflcckmaa
open Go.RowKit
set_option linter.unusedSectionVars false
theorem own_emptyB (w : World) : (w.alloc (.cells #[] 4)).ownsRow w.heap.size 4 1 (.slice (some ⟨w.heap.size, 0, none⟩) 0 0) 0 (([] : List Bool).map Value.bool) :=
  World.ownsRow_made w #[] 0 (Nat.le_refl _) (by unfold maxLen; omega) rfl
theorem own_emptyI (w : World) : (w.alloc (.cells #[] 3)).ownsRow w.heap.size 3 1 (.slice (some ⟨w.heap.size, 0, none⟩) 0 0) 0 (cellsI []) :=
  World.ownsRow_made w #[] 0 (Nat.le_refl _) (by unfold maxLen; omega) rfl
theorem PkAt.len {ts : List Tb} {f i : Nat} {lo hi : ByteArray} {sm : Bool} {mb : List Bool} (h : PkAt ts f i lo hi sm mb) : mb.length = i := by rw [← h.m]; simp
theorem maxS_no {a b : ByteArray} (h : decide (cmpS b a ≤ 0) = true) : maxS a b = a := by
  unfold maxS
  have h1 := of_decide_eq_true h
  have h2 := cmpS_ord.anti a b
  rw [if_neg (by omega)]
theorem maxS_yes {a b : ByteArray} (h : decide (cmpS b a ≤ 0) = false) : maxS a b = b := by
  unfold maxS
  have h1 := of_decide_eq_false h
  have h2 := cmpS_ord.anti a b
  rw [if_pos (by omega)]
set_option maxRecDepth 100000 in
set_option maxHeartbeats 8000000 in
theorem refPick_any (ao : Option Addr) (n c : Nat) (ts : List Tb) (w : World) (hE : TabsV w ao n ts) (hn : n ≤ 1000) :
    Calls Try.prog 11 #[.slice ao n c] w (PickR ts w) := by
  have HE : Hid (∀ V, Below w.heap.size w V → TabsV V ao n ts) := fun V hV => hE.keep hV
  have HLN : Hid (ts.length = n) := hE.1
  clear hE
  go_enter Try.func11, Try.ntmps11
  go_wp2
  go_loopw [5] (fun x wr => ∃ i : Nat, x = .int .i64 i ∧ i ≤ 3 ∧ (∀ j : Nat, j < i → (cntN ts j n : Int) ≤ capI j) ∧ wr = w) (fun x _ => 3 - (intOf x).toNat)
  case atStart => exact ⟨0, rfl, by omega, fun j hj => absurd hj (by omega), rfl⟩
  case round =>
    obtain ⟨i, rfl, hin, hall, rfl⟩ := hrel
    have HA : Hid _ := hall
    clear hall
    by_cases hlt : i < 3
    · have hltz : (i : Int) < 3 := by omega
      have HP : Hid _ := of_any ao n c ts wr (HE.out wr (Below.refl _ _)) hn i
      have HCP : Hid _ := refCap_any i wr
      obtain ⟨k, HK⟩ : ∃ k, Hid (cntN ts i n = k) := ⟨_, rfl⟩
      rw [HK.out] at HP
      obtain ⟨cp, HCI⟩ : ∃ z, Hid (capI (i : Int) = z) := ⟨_, rfl⟩
      rw [HCI.out] at HCP
      go_wp2_with fail
      refine Calls.mono HP.out ?_
      rintro e w1 ⟨rfl, hw1⟩
      subst hw1
      go_wp2_with fail
      refine Calls.mono HCP.out ?_
      rintro e w2 ⟨rfl, hw2⟩
      subst hw2
      clear HP HCP
      by_cases hle : (k : Int) ≤ cp
      · have HA2 : Hid (∀ j : Nat, j < i + 1 → (cntN ts j n : Int) ≤ capI j) := all_succ i HA.out (by rw [HK.out, HCI.out]; exact hle)
        go_wp2
        go_roundw
        case rel => exact ⟨i + 1, by go_num, by omega, HA2.out, trivial⟩
        case measure => simp [intOf]; omega
      · have HN : Hid _ := pk_of (pickF_at ts i hlt (fun j hj => by rw [HLN.out]; exact HA.out j hj) (by rw [HLN.out, HK.out, HCI.out]; exact hle))
        have hi3 : ((i : Int) == 3) = false := by simp; omega
        go_upto_region 4 with fail
        clear hle
        go_wp2
        go_loopw [6, 7, 8, 9, 10, 11] (fun lo hi sm mb x _ wr => ∃ (q : Nat) (lo' hi' : ByteArray) (sm' : Bool) (mb' : List Bool), x = .int .i64 q ∧ q ≤ n ∧ lo = .string lo' ∧ hi = .string hi' ∧ sm = .bool sm' ∧ PkAt ts i q lo' hi' sm' mb' ∧ wr.ownsRow w2.heap.size 4 1 mb q (mb'.map Value.bool) ∧ Below w2.heap.size w2 wr) (fun _ _ _ _ x _ _ => n - (intOf x).toNat)
        case atStart => exact ⟨0, ByteArray.empty, ByteArray.empty, false, [], rfl, by omega, rfl, rfl, rfl, PkAt.start ts i, own_emptyB w2, bel_alloc _ _⟩
        case round =>
          obtain ⟨q, lo, hi, sm, mb, rfl, hqn, rfl, rfl, rfl, hpk, hown, hbel⟩ := hrel
          have HPK : Hid (PkAt ts i q lo hi sm mb) := hpk
          have HOW : Hid (wr.ownsRow w2.heap.size 4 1 u9 q (mb.map Value.bool) ∧ Below w2.heap.size w2 wr) := And.intro hown hbel
          by_cases hq : q < n
          · have hqz : (q : Int) < (n : Int) := by omega
            have hTV := HE.out wr hbel
            obtain ⟨b, off, hao, hEn⟩ := hTV.2 (by omega)
            have hln := hTV.1
            have HRG : Hid (wr.rangeAt b (off + q * 36) (encT (ts.getD q zT))) := tabs_range hEn q (by omega) rfl
            have HMS : Hid _ := mineB_sm ts i q
            obtain ⟨x, HX⟩ : ∃ x, Hid (ts.getD q zT = x) := ⟨_, rfl⟩
            rw [HX.out] at HRG
            have HM2 : Hid (mineB ts i q = (decide (x.lv = i) && (decide (i = 0) || !sm))) := by show _ = _; rw [HMS.out, HX.out, HPK.out.s]
            have c0 := (range_four HRG.out).1
            subst hao
            clear hEn hTV hln hpk hown hbel HMS
            have NO : mineB ts i q = false → True := fun _ => trivial
            clear NO
            by_cases e1 : x.lv = i
            · have e1b : (x.lv == (i : Int)) = true := by simpa using e1
              have HE1 : Hid _ := e1
              clear e1
              by_cases e2 : i = 0
              · have hi0 : ((i : Int) == 0) = true := by simp; omega
                have HE2 : Hid _ := e2
                clear e2
                cases sm with
                | false =>
                  have HMI : Hid (mineB ts i q = true) := by show _ = _; rw [HM2.out, decide_eq_true HE1.out, decide_eq_true HE2.out]; rfl
                  have HO5 : Hid ((wr.alloc (.cells #[Value.bool true] 4)).ownsRow w2.heap.size 4 1 u9 q (mb.map Value.bool)) := HOW.out.1.alloc _
                  have HS5 : Hid (w2.heap.size ≤ (wr.alloc (.cells #[Value.bool true] 4)).heap.size) := by show _ ≤ _; have := HOW.out.2.size; simp; omega
                  have HCC : Hid ((wr.alloc (.cells #[Value.bool true] 4)).cell? ⟨wr.heap.size, 0, none⟩ = some (Value.bool true)) := by show _ = _; rw [cell_of_row _ _ _ _ _ _ (heap_alloc_new wr _)]; rfl
                  clear HM2
                  go_wp2_with (at_builtin; refine wpList_append_bool _ rfl (.tmp 50) (.tmp 52) rfl w2.heap.size _ q mb rfl HO5.out HS5.out wr.heap.size true rfl HCC.out (by omega) ?_)
                  intro v6 w6 hown6 _ hb6
                  have HN6 : Hid (w6.ownsRow w2.heap.size 4 1 v6 (q + 1) ((mb ++ [true]).map Value.bool) ∧ Below w2.heap.size w2 w6) := And.intro (by have hl := HPK.out.len; simpa [hl] using hown6) ((HOW.out.2.alloc HOW.out.2.size _).trans hb6)
                  clear hown6
                  have HRG6 : Hid (w6.rangeAt b (off + q * 36) (encT x)) := by show World.rangeAt _ _ _ _; rw [← HX.out]; exact tabs_range (show Tabs w6 b off ts from by obtain ⟨b9, o9, h9, h8⟩ := (HE.out w6 HN6.out.2).2 (by omega); cases h9; exact h8) q (by have := HLN.out; omega) rfl
                  obtain ⟨-, -, c3, c4⟩ := range_four HRG6.out
                  clear hb6 c0
                  have HPY : Hid (PkAt ts i (q + 1) x.first x.last true (mb ++ [true])) := by show PkAt _ _ _ _ _ _ _; rw [← HX.out]; exact PkAt.yes0 HPK.out HMI.out
                  go_wp2
                  go_roundw
                  case rel => exact ⟨q + 1, x.first, x.last, true, mb ++ [true], by go_num, by omega, rfl, rfl, rfl, HPY.out, HN6.out.1, HN6.out.2⟩
                  case measure => simp [intOf]; omega
                | true =>
                  have HMI : Hid (mineB ts i q = true) := by show _ = _; rw [HM2.out, decide_eq_true HE1.out, decide_eq_true HE2.out]; rfl
                  have HO5 : Hid ((wr.alloc (.cells #[Value.bool true] 4)).ownsRow w2.heap.size 4 1 u9 q (mb.map Value.bool)) := HOW.out.1.alloc _
                  have HS5 : Hid (w2.heap.size ≤ (wr.alloc (.cells #[Value.bool true] 4)).heap.size) := by show _ ≤ _; have := HOW.out.2.size; simp; omega
                  have HCC : Hid ((wr.alloc (.cells #[Value.bool true] 4)).cell? ⟨wr.heap.size, 0, none⟩ = some (Value.bool true)) := by show _ = _; rw [cell_of_row _ _ _ _ _ _ (heap_alloc_new wr _)]; rfl
                  clear HM2
                  go_wp2_with (at_builtin; refine wpList_append_bool _ rfl (.tmp 50) (.tmp 52) rfl w2.heap.size _ q mb rfl HO5.out HS5.out wr.heap.size true rfl HCC.out (by omega) ?_)
                  intro v6 w6 hown6 _ hb6
                  have HN6 : Hid (w6.ownsRow w2.heap.size 4 1 v6 (q + 1) ((mb ++ [true]).map Value.bool) ∧ Below w2.heap.size w2 w6) := And.intro (by have hl := HPK.out.len; simpa [hl] using hown6) ((HOW.out.2.alloc HOW.out.2.size _).trans hb6)
                  clear hown6
                  have HRG6 : Hid (w6.rangeAt b (off + q * 36) (encT x)) := by show World.rangeAt _ _ _ _; rw [← HX.out]; exact tabs_range (show Tabs w6 b off ts from by obtain ⟨b9, o9, h9, h8⟩ := (HE.out w6 HN6.out.2).2 (by omega); cases h9; exact h8) q (by have := HLN.out; omega) rfl
                  obtain ⟨-, -, c3, c4⟩ := range_four HRG6.out
                  clear hb6 c0
                  have HPY : Hid (PkAt ts i (q + 1) (minS lo x.first) (maxS hi x.last) true (mb ++ [true])) := by show PkAt _ _ _ _ _ _ _; rw [← HX.out]; exact PkAt.yes1 HPK.out HMI.out
                  have HMN : Hid (minS lo x.first = if cmpS x.first lo < 0 then x.first else lo) := rfl
                  have HMX : Hid (maxS hi x.last = if cmpS hi x.last < 0 then x.last else hi) := rfl
                  have hl1 := less_cmpS x.first lo
                  by_cases g1 : cmpS x.first lo < 0
                  · rw [decide_eq_true g1] at hl1
                    have HMN2 : Hid (minS lo x.first = x.first) := by show _ = _; rw [HMN.out, if_pos g1]
                    rw [HMN2.out] at HPY
                    clear g1 HMN
                    rcases le_cases x.last hi with ⟨a1, a3⟩ | ⟨a1, a2, a3⟩ | ⟨a1, a2, a3⟩
                    · have HMX2 : Hid (maxS hi x.last = hi) := maxS_no a3
                      rw [HMX2.out] at HPY
                      clear a3 HMX
                      go_wp2
                      go_roundw
                      case rel => exact ⟨q + 1, x.first, hi, true, mb ++ [true], by go_num, by omega, rfl, rfl, rfl, HPY.out, HN6.out.1, HN6.out.2⟩
                      case measure => simp [intOf]; omega
                    · have HMX2 : Hid (maxS hi x.last = hi) := maxS_no a3
                      rw [HMX2.out] at HPY
                      clear a3 HMX
                      go_wp2
                      go_roundw
                      case rel => exact ⟨q + 1, x.first, hi, true, mb ++ [true], by go_num, by omega, rfl, rfl, rfl, HPY.out, HN6.out.1, HN6.out.2⟩
                      case measure => simp [intOf]; omega
                    · have HMX2 : Hid (maxS hi x.last = x.last) := maxS_yes a3
                      rw [HMX2.out] at HPY
                      clear a3 HMX
                      go_wp2
                      go_roundw
                      case rel => exact ⟨q + 1, x.first, x.last, true, mb ++ [true], by go_num, by omega, rfl, rfl, rfl, HPY.out, HN6.out.1, HN6.out.2⟩
                      case measure => simp [intOf]; omega
                  · rw [decide_eq_false g1] at hl1
                    have HMN2 : Hid (minS lo x.first = lo) := by show _ = _; rw [HMN.out, if_neg g1]
                    rw [HMN2.out] at HPY
                    clear g1 HMN
                    rcases le_cases x.last hi with ⟨a1, a3⟩ | ⟨a1, a2, a3⟩ | ⟨a1, a2, a3⟩
                    · have HMX2 : Hid (maxS hi x.last = hi) := maxS_no a3
                      rw [HMX2.out] at HPY
                      clear a3 HMX
                      go_wp2
                      go_roundw
                      case rel => exact ⟨q + 1, lo, hi, true, mb ++ [true], by go_num, by omega, rfl, rfl, rfl, HPY.out, HN6.out.1, HN6.out.2⟩
                      case measure => simp [intOf]; omega
                    · have HMX2 : Hid (maxS hi x.last = hi) := maxS_no a3
                      rw [HMX2.out] at HPY
                      clear a3 HMX
                      go_wp2
                      go_roundw
                      case rel => exact ⟨q + 1, lo, hi, true, mb ++ [true], by go_num, by omega, rfl, rfl, rfl, HPY.out, HN6.out.1, HN6.out.2⟩
                      case measure => simp [intOf]; omega
                    · have HMX2 : Hid (maxS hi x.last = x.last) := maxS_yes a3
                      rw [HMX2.out] at HPY
                      clear a3 HMX
                      go_wp2
                      go_roundw
                      case rel => exact ⟨q + 1, lo, x.last, true, mb ++ [true], by go_num, by omega, rfl, rfl, rfl, HPY.out, HN6.out.1, HN6.out.2⟩
                      case measure => simp [intOf]; omega
              · have hi0 : ((i : Int) == 0) = false := by simp; omega
                have HE2 : Hid _ := e2
                clear e2
                cases sm with
                | false =>
                  have HMI : Hid (mineB ts i q = true) := by show _ = _; rw [HM2.out, decide_eq_true HE1.out, decide_eq_false HE2.out]; rfl
                  have HO5 : Hid ((wr.alloc (.cells #[Value.bool true] 4)).ownsRow w2.heap.size 4 1 u9 q (mb.map Value.bool)) := HOW.out.1.alloc _
                  have HS5 : Hid (w2.heap.size ≤ (wr.alloc (.cells #[Value.bool true] 4)).heap.size) := by show _ ≤ _; have := HOW.out.2.size; simp; omega
                  have HCC : Hid ((wr.alloc (.cells #[Value.bool true] 4)).cell? ⟨wr.heap.size, 0, none⟩ = some (Value.bool true)) := by show _ = _; rw [cell_of_row _ _ _ _ _ _ (heap_alloc_new wr _)]; rfl
                  clear HM2
                  go_wp2_with (at_builtin; refine wpList_append_bool _ rfl (.tmp 50) (.tmp 52) rfl w2.heap.size _ q mb rfl HO5.out HS5.out wr.heap.size true rfl HCC.out (by omega) ?_)
                  intro v6 w6 hown6 _ hb6
                  have HN6 : Hid (w6.ownsRow w2.heap.size 4 1 v6 (q + 1) ((mb ++ [true]).map Value.bool) ∧ Below w2.heap.size w2 w6) := And.intro (by have hl := HPK.out.len; simpa [hl] using hown6) ((HOW.out.2.alloc HOW.out.2.size _).trans hb6)
                  clear hown6
                  have HRG6 : Hid (w6.rangeAt b (off + q * 36) (encT x)) := by show World.rangeAt _ _ _ _; rw [← HX.out]; exact tabs_range (show Tabs w6 b off ts from by obtain ⟨b9, o9, h9, h8⟩ := (HE.out w6 HN6.out.2).2 (by omega); cases h9; exact h8) q (by have := HLN.out; omega) rfl
                  obtain ⟨-, -, c3, c4⟩ := range_four HRG6.out
                  clear hb6 c0
                  have HPY : Hid (PkAt ts i (q + 1) x.first x.last true (mb ++ [true])) := by show PkAt _ _ _ _ _ _ _; rw [← HX.out]; exact PkAt.yes0 HPK.out HMI.out
                  go_wp2
                  go_roundw
                  case rel => exact ⟨q + 1, x.first, x.last, true, mb ++ [true], by go_num, by omega, rfl, rfl, rfl, HPY.out, HN6.out.1, HN6.out.2⟩
                  case measure => simp [intOf]; omega
                | true =>
                  have HMI : Hid (mineB ts i q = false) := by show _ = _; rw [HM2.out, decide_eq_true HE1.out, decide_eq_false HE2.out]; rfl
                  have HPN : Hid (PkAt ts i (q + 1) lo hi true (mb ++ [false])) := HPK.out.no HMI.out
                  have HO5 : Hid ((wr.alloc (.cells #[Value.bool false] 4)).ownsRow w2.heap.size 4 1 u9 q (mb.map Value.bool)) := HOW.out.1.alloc _
                  have HS5 : Hid (w2.heap.size ≤ (wr.alloc (.cells #[Value.bool false] 4)).heap.size) := by show _ ≤ _; have := HOW.out.2.size; simp; omega
                  have HCC : Hid ((wr.alloc (.cells #[Value.bool false] 4)).cell? ⟨wr.heap.size, 0, none⟩ = some (Value.bool false)) := by show _ = _; rw [cell_of_row _ _ _ _ _ _ (heap_alloc_new wr _)]; rfl
                  clear HM2
                  go_wp2_with (at_builtin; refine wpList_append_bool _ rfl (.tmp 50) (.tmp 52) rfl w2.heap.size _ q mb rfl HO5.out HS5.out wr.heap.size false rfl HCC.out (by omega) ?_)
                  intro v6 w6 hown6 _ hb6
                  have HN6 : Hid (w6.ownsRow w2.heap.size 4 1 v6 (q + 1) ((mb ++ [false]).map Value.bool) ∧ Below w2.heap.size w2 w6) := And.intro (by have hl := HPK.out.len; simpa [hl] using hown6) ((HOW.out.2.alloc HOW.out.2.size _).trans hb6)
                  clear hown6
                  clear hb6 c0
                  go_wp2
                  go_roundw
                  case rel => exact ⟨q + 1, lo, hi, true, mb ++ [false], by go_num, by omega, rfl, rfl, rfl, HPN.out, HN6.out.1, HN6.out.2⟩
                  case measure => simp [intOf]; omega
            · have e1b : (x.lv == (i : Int)) = false := by simpa using e1
              have HE1 : Hid _ := e1
              clear e1
              have HMI : Hid (mineB ts i q = false) := by show _ = _; rw [HM2.out, decide_eq_false HE1.out]; rfl
              have HPN : Hid (PkAt ts i (q + 1) lo hi sm (mb ++ [false])) := HPK.out.no HMI.out
              have HO5 : Hid ((wr.alloc (.cells #[Value.bool false] 4)).ownsRow w2.heap.size 4 1 u9 q (mb.map Value.bool)) := HOW.out.1.alloc _
              have HS5 : Hid (w2.heap.size ≤ (wr.alloc (.cells #[Value.bool false] 4)).heap.size) := by show _ ≤ _; have := HOW.out.2.size; simp; omega
              have HCC : Hid ((wr.alloc (.cells #[Value.bool false] 4)).cell? ⟨wr.heap.size, 0, none⟩ = some (Value.bool false)) := by show _ = _; rw [cell_of_row _ _ _ _ _ _ (heap_alloc_new wr _)]; rfl
              clear HM2
              go_wp2_with (at_builtin; refine wpList_append_bool _ rfl (.tmp 50) (.tmp 52) rfl w2.heap.size _ q mb rfl HO5.out HS5.out wr.heap.size false rfl HCC.out (by omega) ?_)
              intro v6 w6 hown6 _ hb6
              have HN6 : Hid (w6.ownsRow w2.heap.size 4 1 v6 (q + 1) ((mb ++ [false]).map Value.bool) ∧ Below w2.heap.size w2 w6) := And.intro (by have hl := HPK.out.len; simpa [hl] using hown6) ((HOW.out.2.alloc HOW.out.2.size _).trans hb6)
              clear hown6
              clear hb6 c0
              go_wp2
              go_roundw
              case rel => exact ⟨q + 1, lo, hi, sm, mb ++ [false], by go_num, by omega, rfl, rfl, rfl, HPN.out, HN6.out.1, HN6.out.2⟩
              case measure => simp [intOf]; omega
          · have hqz : ¬ (q : Int) < (n : Int) := by omega
            obtain rfl : q = n := by omega
            have HLI : Hid (loP ts i ts.length = lo ∧ hiP ts i ts.length = hi) := by show _ ∧ _; rw [HLN.out]; exact ⟨HPK.out.l, HPK.out.h⟩
            obtain ⟨fo, fc, rfl, hfv, -⟩ := own_boolsV hown
            have HFM : Hid ((List.range q).map (mineB ts i) = mb) := HPK.out.m
            have HFV : Hid (BoolsV wr fo q mb) := hfv
            obtain ⟨w3, hw3⟩ : ∃ W, W = wr := ⟨_, rfl⟩
            subst hw3
            clear hpk hown hbel hfv
            go_wp2
            go_loopw [12, 13] (fun o x wr => ∃ (p : Nat), x = .int .i64 p ∧ p ≤ q ∧ wr.ownsRow w3.heap.size 3 1 o (inN ts i p).length (cellsI (inN ts i p)) ∧ Below w3.heap.size w3 wr) (fun _ x _ => q - (intOf x).toNat)
            case atStart => exact ⟨0, rfl, by omega, own_emptyI w3, bel_alloc _ _⟩
            case round =>
              obtain ⟨p, rfl, hpn, hown, hbel⟩ := hrel
              by_cases hp : p < q
              · have hpz : (p : Int) < (q : Int) := by omega
                have hBW : Below w2.heap.size w2 wr := HOW.out.2.trans (hbel.mono HOW.out.2.size)
                have hTV := HE.out wr hBW
                obtain ⟨b, off, hao, hEn⟩ := hTV.2 (by omega)
                have hln := hTV.1
                have HRG : Hid (wr.rangeAt b (off + p * 36) (encT (ts.getD p zT))) := tabs_range hEn p (by omega) rfl
                obtain ⟨fb, hfo, hfc⟩ := (HFV.out.keep hbel).2 (by omega)
                have f0 := hfc p hp
                have hmp : mb.getD p false = mineB ts i p := by rw [← HFM.out]; simp [hp]
                rw [hmp] at f0
                have HSU : Hid _ := inN_succ ts i p
                have HLO : Hid (lowB ts i p = (decide ((ts.getD p zT).lv = (i : Int) + 1) && decide (cmpS (ts.getD p zT).first hi ≤ 0) && decide (cmpS lo (ts.getD p zT).last ≤ 0))) := by show _ = _; rw [← HLI.out.1, ← HLI.out.2]; rfl
                obtain ⟨x, HX⟩ : ∃ x, Hid (ts.getD p zT = x) := ⟨_, rfl⟩
                rw [HX.out] at HRG HLO
                obtain ⟨c0, -, c3, c4⟩ := range_four HRG.out
                obtain ⟨L, HL⟩ : ∃ L, Hid (inN ts i p = L) := ⟨_, rfl⟩
                have HLL : Hid (L.length ≤ 1000) := by show _ ≤ _; rw [← HL.out]; have := inN_le ts i p; omega
                rw [HL.out] at hown HSU
                have HOW3 : Hid (wr.ownsRow w3.heap.size 3 1 u12 L.length (cellsI L) ∧ Below w3.heap.size w3 wr) := And.intro hown hbel
                obtain ⟨mq, HMQ⟩ : ∃ y, Hid (mineB ts i p = y) := ⟨_, rfl⟩
                rw [HMQ.out] at f0 HSU
                subst hao hfo
                clear hEn hTV hln hown hbel hBW hfc hmp
                have ge_flip : Hid (decide (cmpS lo x.last ≤ 0) = !(Op.bytesLess x.last.toList lo.toList)) := by
                  show _ = _
                  rw [less_cmpS]
                  have := cmpS_ord.anti x.last lo
                  by_cases h : cmpS lo x.last ≤ 0
                  · rw [decide_eq_true h, decide_eq_false (by omega)]; rfl
                  · rw [decide_eq_false h, decide_eq_true (by omega)]; rfl
                cases mq with
                | true =>
                  have HIS : Hid (inN ts i (p + 1) = L ++ [p]) := by show _ = _; rw [HSU.out, Bool.true_or]; rfl
                  have HO5 : Hid ((wr.alloc (.cells #[Value.int .i64 (p : Int)] 3)).ownsRow w3.heap.size 3 1 u12 L.length (cellsI L)) := HOW3.out.1.alloc _
                  have HS5 : Hid (w3.heap.size ≤ (wr.alloc (.cells #[Value.int .i64 (p : Int)] 3)).heap.size) := by show _ ≤ _; have := HOW3.out.2.size; simp; omega
                  have HCC : Hid ((wr.alloc (.cells #[Value.int .i64 (p : Int)] 3)).cell? ⟨wr.heap.size, 0, none⟩ = some (Value.int .i64 (p : Int))) := by show _ = _; rw [cell_of_row _ _ _ _ _ _ (heap_alloc_new wr _)]; rfl
                  clear c0 c3 c4
                  go_wp2_with (at_builtin; refine wpList_append_int _ rfl (.tmp 127) (.tmp 129) rfl w3.heap.size _ L.length L rfl HO5.out HS5.out wr.heap.size p rfl HCC.out (by have := HLL.out; omega) ?_)
                  intro v6 w6 hown6 hb6
                  have HN6 : Hid (w6.ownsRow w3.heap.size 3 1 v6 (L ++ [p]).length (cellsI (L ++ [p])) ∧ Below w3.heap.size w3 w6) := And.intro (by simpa using hown6) ((HOW3.out.2.alloc HOW3.out.2.size _).trans hb6)
                  clear hown6 hb6
                  go_wp2
                  go_roundw
                  case rel => exact ⟨p + 1, by go_num, by omega, by rw [HIS.out]; exact HN6.out.1, HN6.out.2⟩
                  case measure => simp [intOf]; omega
                | false =>
                  by_cases e3 : x.lv = (i : Int) + 1
                  · have e3b : (x.lv == (i : Int) + 1) = true := by simpa using e3
                    have HE3 : Hid _ := e3
                    clear e3
                    cases hL : Op.bytesLess x.last.toList lo.toList
                    · have HG : Hid (decide (cmpS lo x.last ≤ 0) = true) := by show _ = _; rw [ge_flip.out, hL]; rfl
                      rcases le_cases x.first hi with ⟨a1, a3⟩ | ⟨a1, a2, a3⟩ | ⟨a1, a2, a3⟩
                      · have HIS : Hid (inN ts i (p + 1) = L ++ [p]) := by show _ = _; rw [HSU.out, Bool.false_or, HLO.out, decide_eq_true HE3.out, a3, HG.out]; rfl
                        have HO5 : Hid ((wr.alloc (.cells #[Value.int .i64 (p : Int)] 3)).ownsRow w3.heap.size 3 1 u12 L.length (cellsI L)) := HOW3.out.1.alloc _
                        have HS5 : Hid (w3.heap.size ≤ (wr.alloc (.cells #[Value.int .i64 (p : Int)] 3)).heap.size) := by show _ ≤ _; have := HOW3.out.2.size; simp; omega
                        have HCC : Hid ((wr.alloc (.cells #[Value.int .i64 (p : Int)] 3)).cell? ⟨wr.heap.size, 0, none⟩ = some (Value.int .i64 (p : Int))) := by show _ = _; rw [cell_of_row _ _ _ _ _ _ (heap_alloc_new wr _)]; rfl
                        clear a3
                        go_wp2_with (at_builtin; refine wpList_append_int _ rfl (.tmp 127) (.tmp 129) rfl w3.heap.size _ L.length L rfl HO5.out HS5.out wr.heap.size p rfl HCC.out (by have := HLL.out; omega) ?_)
                        intro v6 w6 hown6 hb6
                        have HN6 : Hid (w6.ownsRow w3.heap.size 3 1 v6 (L ++ [p]).length (cellsI (L ++ [p])) ∧ Below w3.heap.size w3 w6) := And.intro (by simpa using hown6) ((HOW3.out.2.alloc HOW3.out.2.size _).trans hb6)
                        clear hown6 hb6
                        go_wp2
                        go_roundw
                        case rel => exact ⟨p + 1, by go_num, by omega, by rw [HIS.out]; exact HN6.out.1, HN6.out.2⟩
                        case measure => simp [intOf]; omega
                      · have HIS : Hid (inN ts i (p + 1) = L ++ [p]) := by show _ = _; rw [HSU.out, Bool.false_or, HLO.out, decide_eq_true HE3.out, a3, HG.out]; rfl
                        have HO5 : Hid ((wr.alloc (.cells #[Value.int .i64 (p : Int)] 3)).ownsRow w3.heap.size 3 1 u12 L.length (cellsI L)) := HOW3.out.1.alloc _
                        have HS5 : Hid (w3.heap.size ≤ (wr.alloc (.cells #[Value.int .i64 (p : Int)] 3)).heap.size) := by show _ ≤ _; have := HOW3.out.2.size; simp; omega
                        have HCC : Hid ((wr.alloc (.cells #[Value.int .i64 (p : Int)] 3)).cell? ⟨wr.heap.size, 0, none⟩ = some (Value.int .i64 (p : Int))) := by show _ = _; rw [cell_of_row _ _ _ _ _ _ (heap_alloc_new wr _)]; rfl
                        clear a3
                        go_wp2_with (at_builtin; refine wpList_append_int _ rfl (.tmp 127) (.tmp 129) rfl w3.heap.size _ L.length L rfl HO5.out HS5.out wr.heap.size p rfl HCC.out (by have := HLL.out; omega) ?_)
                        intro v6 w6 hown6 hb6
                        have HN6 : Hid (w6.ownsRow w3.heap.size 3 1 v6 (L ++ [p]).length (cellsI (L ++ [p])) ∧ Below w3.heap.size w3 w6) := And.intro (by simpa using hown6) ((HOW3.out.2.alloc HOW3.out.2.size _).trans hb6)
                        clear hown6 hb6
                        go_wp2
                        go_roundw
                        case rel => exact ⟨p + 1, by go_num, by omega, by rw [HIS.out]; exact HN6.out.1, HN6.out.2⟩
                        case measure => simp [intOf]; omega
                      · have HIS : Hid (inN ts i (p + 1) = L) := by show _ = _; rw [HSU.out, Bool.false_or, HLO.out, decide_eq_true HE3.out, a3]; rfl
                        clear a3
                        go_wp2
                        go_roundw
                        case rel => exact ⟨p + 1, by go_num, by omega, by rw [HIS.out]; exact HOW3.out.1, HOW3.out.2⟩
                        case measure => simp [intOf]; omega
                    · have HG : Hid (decide (cmpS lo x.last ≤ 0) = false) := by show _ = _; rw [ge_flip.out, hL]; rfl
                      rcases le_cases x.first hi with ⟨a1, a3⟩ | ⟨a1, a2, a3⟩ | ⟨a1, a2, a3⟩
                      · have HIS : Hid (inN ts i (p + 1) = L) := by show _ = _; rw [HSU.out, Bool.false_or, HLO.out, HG.out, Bool.and_false]; rfl
                        clear a3
                        go_wp2
                        go_roundw
                        case rel => exact ⟨p + 1, by go_num, by omega, by rw [HIS.out]; exact HOW3.out.1, HOW3.out.2⟩
                        case measure => simp [intOf]; omega
                      · have HIS : Hid (inN ts i (p + 1) = L) := by show _ = _; rw [HSU.out, Bool.false_or, HLO.out, HG.out, Bool.and_false]; rfl
                        clear a3
                        go_wp2
                        go_roundw
                        case rel => exact ⟨p + 1, by go_num, by omega, by rw [HIS.out]; exact HOW3.out.1, HOW3.out.2⟩
                        case measure => simp [intOf]; omega
                      · have HIS : Hid (inN ts i (p + 1) = L) := by show _ = _; rw [HSU.out, Bool.false_or, HLO.out, HG.out, Bool.and_false]; rfl
                        clear a3
                        go_wp2
                        go_roundw
                        case rel => exact ⟨p + 1, by go_num, by omega, by rw [HIS.out]; exact HOW3.out.1, HOW3.out.2⟩
                        case measure => simp [intOf]; omega
                  · have e3b : (x.lv == (i : Int) + 1) = false := by simpa using e3
                    have HIS : Hid (inN ts i (p + 1) = L) := by show _ = _; rw [HSU.out, Bool.false_or, HLO.out, decide_eq_false e3]; rfl
                    clear e3
                    go_wp2
                    go_roundw
                    case rel => exact ⟨p + 1, by go_num, by omega, by rw [HIS.out]; exact HOW3.out.1, HOW3.out.2⟩
                    case measure => simp [intOf]; omega
              · have hpz : ¬ (p : Int) < (q : Int) := by omega
                obtain rfl : p = q := by omega
                obtain ⟨ra, rc, rfl, hiv8, hl8, -⟩ := own_intsV2 hown
                have HIN : Hid (inN ts i p = inL ts i) := by show _ = _; unfold inL; rw [HLN.out]
                have HIV8 : Hid (IntsV wr ra (inL ts i).length (inL ts i)) := by show IntsV _ _ _ _; rw [← HIN.out]; exact hiv8
                have HBE : Hid (Below w2.heap.size w2 wr) := HOW.out.2.trans (hbel.mono HOW.out.2.size)
                rw [HIN.out]
                clear hown hbel hiv8 hl8
                go_wp2
                refine bodyPost_ret (results_tmp3 rfl _ _ _) rfl ?_
                exact ⟨ra, rc, by rw [HN.out.1, HN.out.2.1, HN.out.2.2]; rfl, by rw [HN.out.1]; exact HIV8.out, HBE.out⟩
    · have hltz : ¬ (i : Int) < 3 := by omega
      obtain rfl : i = 3 := by omega
      have HN : Hid _ := pk_none (pickF_none ts (fun j hj => by rw [HLN.out]; exact HA.out j hj))
      obtain ⟨n1, n2, n3⟩ := HN.out
      go_wp2
      refine bodyPost_ret (results_tmp3 rfl _ _ _) rfl ?_
      exact ⟨none, 0, by rw [n1, n2, n3]; rfl, by rw [n1]; exact ⟨rfl, fun h => absurd h (by simp)⟩, Below.refl _ _⟩
end Go.Proofs.Ytnkbhojflcckmaa
