/-
  How many tables are of a level, and the score, both told by the document's own and by the program's: contracts over this translation.
-/
import Derived.Test.YtnkbhojflcckmaaPkK
import Derived.Test.YtnkbhojflcckmaaPkI
namespace Go.Proofs.Ytnkbhojflcckmaa
open Go.RowKit
set_option linter.unusedSectionVars false
def onB (l : Int) (x : Tb) : Bool := decide (x.lv = l)
def cntN (ts : List Tb) (l : Int) (i : Nat) : Nat := (plc (onB l) ts i).length
theorem cntN_succ (ts : List Tb) (l : Int) (i : Nat) : cntN ts l (i + 1) = if (ts.getD i zT).lv = l then cntN ts l i + 1 else cntN ts l i := by
  unfold cntN
  rw [plc_succ]
  by_cases h : (ts.getD i zT).lv = l
  · rw [if_pos h, if_pos (by simpa [onB] using h), List.length_append]; rfl
  · rw [if_neg h, if_neg (by simpa [onB] using h)]
theorem cntN_le (ts : List Tb) (l : Int) (i : Nat) : cntN ts l i ≤ i := plc_len _ _ _
set_option maxRecDepth 100000 in
set_option maxHeartbeats 8000000 in
theorem of_any (ao : Option Addr) (n c : Nat) (ts : List Tb) (w : World) (hE : TabsV w ao n ts) (hn : n ≤ 1000) (l : Int) :
    Calls Try.prog 17 #[.slice ao n c, .int .i64 l] w fun e w' => e = .returned (.int .i64 ((cntN ts l n : Nat) : Int)) ∧ w' = w := by
  have HE : Hid _ := hE
  clear hE
  go_enter Try.func17, Try.ntmps17
  go_wp2
  go_loopw [5, 6] (fun m x wr => ∃ i : Nat, x = .int .i64 i ∧ i ≤ n ∧ m = .int .i64 ((cntN ts l i : Nat) : Int) ∧ wr = w) (fun _ x _ => n - (intOf x).toNat)
  case atStart => exact ⟨0, rfl, by omega, rfl, rfl⟩
  case round =>
    obtain ⟨i, rfl, hin, rfl, rfl⟩ := hrel
    by_cases hlt : i < n
    · have hltz : (i : Int) < (n : Int) := by omega
      obtain ⟨b, off, hao, hEn⟩ := HE.out.2 (by omega)
      have hln := HE.out.1
      obtain ⟨c0, c1, c2, c3⟩ := range_four (tabs_range hEn i (by omega) rfl)
      have HSU : Hid _ := cntN_succ ts l i
      have HLE : cntN ts l i < 1001 := by have := cntN_le ts l i; omega
      obtain ⟨x, HX⟩ : ∃ x, Hid (ts.getD i zT = x) := ⟨_, rfl⟩
      rw [HX.out] at c0 HSU
      obtain ⟨k, HK⟩ : ∃ k, Hid (cntN ts l i = k) := ⟨_, rfl⟩
      rw [HK.out] at HSU HLE
      rw [HK.out]
      subst hao
      clear c1 c2 c3 hEn hln
      by_cases he : x.lv = l
      · have HSU2 : Hid (cntN ts l (i + 1) = k + 1) := by show _ = _; rw [HSU.out, if_pos he]
        clear HSU
        go_wp2
        go_roundw
        case rel => exact ⟨i + 1, by go_num, by omega, by rw [HSU2.out]; go_num, trivial⟩
        case measure => simp [intOf]; omega
      · have HSU2 : Hid (cntN ts l (i + 1) = k) := by show _ = _; rw [HSU.out, if_neg he]
        clear HSU
        go_wp2
        go_roundw
        case rel => exact ⟨i + 1, by go_num, by omega, by rw [HSU2.out], trivial⟩
        case measure => simp [intOf]; omega
    · have hltz : ¬ (i : Int) < (n : Int) := by omega
      obtain rfl : i = n := by omega
      go_wp2
      go_ret
      exact ⟨rfl, rfl⟩
theorem wrap_idem (x : Int) : wrap64 (wrap64 x + 0) = wrap64 x := by unfold wrap64; omega
/-- The score, as the machine reckons it. -/
def scN (ts : List Tb) : Nat → Int
  | 0 => 0
  | i + 1 => wrap64 (scN ts i + wayT (ts.getD i zT))
theorem scN_succ (ts : List Tb) (i : Nat) : scN ts (i + 1) = wrap64 (scN ts i + wayT (ts.getD i zT)) := rfl
theorem scN_idem (ts : List Tb) (i : Nat) : wrap64 (scN ts i + 0) = scN ts i := by
  cases i with
  | zero => simp [scN, wrap64]
  | succ i => exact wrap_idem _
set_option maxRecDepth 100000 in
set_option maxHeartbeats 8000000 in
theorem refScore_any (ao : Option Addr) (n c : Nat) (ts : List Tb) (w : World) (hE : TabsV w ao n ts) (hn : n ≤ 1000) :
    Calls Try.prog 13 #[.slice ao n c] w fun e w' => e = .returned (.int .i64 (scN ts n)) ∧ Below w.heap.size w w' := by
  have HE : Hid _ := hE
  clear hE
  go_enter Try.func13, Try.ntmps13
  go_wp2
  go_loopw [3, 4] (fun m x wr => ∃ i : Nat, x = .int .i64 i ∧ i ≤ n ∧ m = .int .i64 (scN ts i) ∧ Below w.heap.size w wr) (fun _ x _ => n - (intOf x).toNat)
  case atStart => exact ⟨0, rfl, by omega, rfl, Below.refl _ _⟩
  case round =>
    obtain ⟨i, rfl, hin, rfl, hbel⟩ := hrel
    have HB : Hid _ := hbel
    by_cases hlt : i < n
    · have hltz : (i : Int) < (n : Int) := by omega
      obtain ⟨b, off, hao, hEn⟩ := HE.out.2 (by omega)
      have hln := HE.out.1
      obtain ⟨c0, c1, c2, c3⟩ := range_four (tabs_range (hEn.below hbel (Nat.le_refl _)) i (by omega) rfl)
      have HSU : Hid (scN ts (i + 1) = wrap64 (scN ts i + wayT (ts.getD i zT))) := scN_succ ts i
      have HID : Hid _ := scN_idem ts i
      obtain ⟨x, HX⟩ : ∃ x, Hid (ts.getD i zT = x) := ⟨_, rfl⟩
      rw [HX.out] at c0 c1 HSU
      obtain ⟨k, HK⟩ : ∃ k, Hid (scN ts i = k) := ⟨_, rfl⟩
      rw [HK.out] at HSU HID
      rw [HK.out]
      subst hao
      clear c2 c3 hEn hln hbel
      by_cases h1 : x.lv < 0
      · have HSU2 : Hid (scN ts (i + 1) = k) := by show _ = _; rw [HSU.out, wayT, if_neg (by omega), HID.out]
        clear HSU
        go_wp2
        go_roundw
        case rel => exact ⟨i + 1, by go_num, by omega, by rw [HSU2.out], HB.out⟩
        case measure => simp [intOf]; omega
      · by_cases h2 : 3 < x.lv
        · have HSU2 : Hid (scN ts (i + 1) = k) := by show _ = _; rw [HSU.out, wayT, if_neg (by omega), HID.out]
          clear HSU
          go_wp2
          go_roundw
          case rel => exact ⟨i + 1, by go_num, by omega, by rw [HSU2.out], HB.out⟩
          case measure => simp [intOf]; omega
        · have HSU2 : Hid (scN ts (i + 1) = wrap64 (k + wrap64 (x.ct * (3 - x.lv)))) := by show _ = _; rw [HSU.out, wayT, if_pos (by omega)]
          have g1 : (0 : Int) ≤ x.lv := by omega
          have g2 : x.lv ≤ 3 := by omega
          have hw3 : wrap64 (3 - x.lv) = 3 - x.lv := by unfold wrap64; omega
          have HW3 : Hid _ := hw3
          clear HSU hw3
          go_wp2_with fail
          go_quiet (fail)
          go_wp2
          go_roundw
          case rel => exact ⟨i + 1, by go_num, by omega, by rw [HSU2.out, ← HW3.out], bel_drewN HB.out nq⟩
          case measure => simp [intOf]; omega
    · have hltz : ¬ (i : Int) < (n : Int) := by omega
      obtain rfl : i = n := by omega
      clear hbel
      go_wp2
      go_ret
      exact ⟨rfl, HB.out⟩
theorem own_intsZ {w : World} {base : Nat} {v : Value} {n : Nat} {l : List Int} (h : w.ownsRow base 3 1 v n (l.map (Value.int .i64))) : ∃ ao c, v = .slice ao n c ∧ n = l.length ∧ (0 < n → ∃ g, ao = some ⟨g, 0, none⟩ ∧ ∀ i, i < n → w.cell? ⟨g, i, none⟩ = some (.int .i64 (l.getD i 0))) := by
  have hl : n = l.length := by have := h.1; rw [List.length_map] at this; omega
  rcases h.2 with ⟨rfl, h0⟩ | ⟨g, cap, cur, rfl, hb, hg, hn, hm, hs, ht⟩
  · exact ⟨none, 0, by rw [h0], hl, fun hp => absurd hp (by omega)⟩
  · refine ⟨_, cap, rfl, hl, fun _ => ⟨g, rfl, fun i hi => ?_⟩⟩
    have hi2 : i < l.length := by omega
    have := h.cells (g := g) rfl i (.int .i64 (l.getD i 0)) (by simp [hi2])
    rwa [Addr.add_lit, Nat.zero_add] at this
set_option maxRecDepth 100000 in
set_option maxHeartbeats 8000000 in
theorem score_any (ao : Option Addr) (n c : Nat) (ts : List Tb) (w : World) (hE : TabsV w ao n ts) (hn : n ≤ 1000) (he : ∀ args w, (callFunc 26 args).run Try.prog w = .ok (.enter 26 args) w) :
    Calls Try.prog 12 #[.slice ao n c] w fun e w' => e = .returned (.int .i64 (scN ts n)) ∧ Below w.heap.size w w' := by
  have HC : Hid _ := askedI_any 26 wayT he ao n c ts w hE hn way_any
  have HLN : Hid (ts.length = n) := hE.1
  clear hE
  go_enter Try.func12, Try.ntmps12
  go_wp2_with fail
  refine Calls.mono HC.out ?_
  rintro e w1 ⟨v, rfl, hown, hb1⟩
  obtain ⟨bo, d, rfl, -, hcells⟩ := own_intsZ hown
  have HCE : Hid _ := hcells
  have HB1 : Hid _ := hb1
  clear hown hcells hb1
  go_wp2
  go_loopw [3, 5, 9] (fun m _ x wr => ∃ i : Nat, x = .int .i64 i ∧ i ≤ n ∧ m = .int .i64 (scN ts i) ∧ wr = w1) (fun _ _ x _ => n - (intOf x).toNat)
  case atStart => exact ⟨0, rfl, by omega, rfl, rfl⟩
  case round =>
    obtain ⟨i, rfl, hin, rfl, rfl⟩ := hrel
    by_cases hlt : i < n
    · have hltz : (i : Int) < (n : Int) := by omega
      obtain ⟨g, rfl, hc⟩ := HCE.out (by omega)
      have ci := hc i hlt
      have HSU : Hid (scN ts (i + 1) = wrap64 (scN ts i + wayT (ts.getD i zT))) := scN_succ ts i
      have hw : (ts.map wayT).getD i 0 = wayT (ts.getD i zT) := by
        have : i < ts.length := by rw [HLN.out]; exact hlt
        simp [this]
      rw [hw] at ci
      obtain ⟨y, HY⟩ : ∃ y, Hid (wayT (ts.getD i zT) = y) := ⟨_, rfl⟩
      rw [HY.out] at ci HSU
      obtain ⟨k, HK⟩ : ∃ k, Hid (scN ts i = k) := ⟨_, rfl⟩
      rw [HK.out] at HSU
      rw [HK.out]
      clear hw hc
      go_wp2
      go_roundw
      case rel => exact ⟨i + 1, by go_num, by omega, by rw [HSU.out], trivial⟩
      case measure => simp [intOf]; omega
    · have hltz : ¬ (i : Int) < (n : Int) := by omega
      obtain rfl : i = n := by omega
      go_wp2
      go_ret
      exact ⟨rfl, HB1.out⟩
end Go.Proofs.Ytnkbhojflcckmaa
