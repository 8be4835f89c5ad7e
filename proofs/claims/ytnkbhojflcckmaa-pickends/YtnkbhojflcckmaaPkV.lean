/-
  What right answers: tables as there may be: a contract over this translation.
-/
import Derived.Test.YtnkbhojflcckmaaPkR
namespace Go.Proofs.Ytnkbhojflcckmaa
open Go.RowKit
set_option linter.unusedSectionVars false
theorem and3 (n : Int) : bits .and .i64 n 3 = n % 4 := by
  have hm : (BitVec.ofInt 64 3).toNat = 2 ^ 2 - 1 := by decide
  have key : (BitVec.ofInt 64 n &&& BitVec.ofInt 64 3).toNat = (n % ((2 ^ 64 : Nat) : Int)).toNat % 2 ^ 2 := by
    rw [BitVec.toNat_and, BitVec.toNat_ofInt, hm, Nat.and_two_pow_sub_one_eq_mod]
  show IntKind.i64.wrap ((BitVec.ofInt 64 n &&& BitVec.ofInt 64 3).toNat : Nat) = n % 4
  rw [key, IntKind.wrap_i64]
  omega
theorem and63 (n : Int) : bits .and .i64 n 63 = n % 64 := by
  have hm : (BitVec.ofInt 64 63).toNat = 2 ^ 6 - 1 := by decide
  have key : (BitVec.ofInt 64 n &&& BitVec.ofInt 64 63).toNat = (n % ((2 ^ 64 : Nat) : Int)).toNat % 2 ^ 6 := by
    rw [BitVec.toNat_and, BitVec.toNat_ofInt, hm, Nat.and_two_pow_sub_one_eq_mod]
  show IntKind.i64.wrap ((BitVec.ofInt 64 n &&& BitVec.ofInt 64 63).toNat : Nat) = n % 64
  rw [key, IntKind.wrap_i64]
  omega
def Tb.lev (x : Tb) (k : Int) : Tb := ⟨k, x.ct, x.root, x.first, x.last, x.hr⟩
def Tb.cnt (x : Tb) (k : Int) : Tb := ⟨x.lv, k, x.root, x.first, x.last, x.hr⟩
theorem encT_lev (x : Tb) (k : Int) : (encT x).set 0 (.int .i64 k) = encT (x.lev k) := rfl
theorem encT_cnt (x : Tb) (k : Int) : (encT x).set 1 (.int .i64 k) = encT (x.cnt k) := rfl
/-- A table made one that may be. -/
def rgt (x : Tb) : Tb := if 0 < cmpS x.first x.last then ((((x.lev (x.lv % 4)).cnt (1 + x.ct % 64)).fst x.last).lst x.first) else ((x.lev (x.lv % 4)).cnt (1 + x.ct % 64))
/-- Those of a level, among the first. -/
def rgtN (ts : List Tb) (l i : Nat) : List Tb := (((List.range i).filter fun j => decide ((ts.getD j zT).lv % 4 = (l : Int)))).map fun j => rgt (ts.getD j zT)
theorem rgtN_succ (ts : List Tb) (l i : Nat) : rgtN ts l (i + 1) = if (ts.getD i zT).lv % 4 = (l : Int) then rgtN ts l i ++ [rgt (ts.getD i zT)] else rgtN ts l i := by
  unfold rgtN
  rw [List.range_succ, List.filter_append]
  by_cases h : (ts.getD i zT).lv % 4 = (l : Int)
  · rw [if_pos h, List.filter_cons_of_pos (by exact decide_eq_true h), List.filter_nil, List.map_append]; rfl
  · rw [if_neg h, List.filter_cons_of_neg (by rw [decide_eq_false h]; simp), List.filter_nil, List.append_nil]
theorem rgtN_len (ts : List Tb) (l i : Nat) : (rgtN ts l i).length ≤ i := by
  unfold rgtN
  rw [List.length_map]
  have := List.length_filter_le (fun j => decide ((ts.getD j zT).lv % 4 = (l : Int))) (List.range i)
  rwa [List.length_range] at this
def rightN (ts : List Tb) (m k : Nat) : List Tb := (List.range k).flatMap fun l => rgtN ts l m
theorem rightN_succ (ts : List Tb) (m k : Nat) : rightN ts m (k + 1) = rightN ts m k ++ rgtN ts k m := by
  unfold rightN
  rw [List.range_succ, List.flatMap_append]
  simp
theorem rightN_len (ts : List Tb) (m k : Nat) : (rightN ts m k).length ≤ k * m := by
  induction k with
  | zero => simp [rightN]
  | succ k ih =>
    rw [rightN_succ, List.length_append, Nat.add_mul]
    have := rgtN_len ts k m
    omega
def rightL (ts : List Tb) : List Tb := rightN ts (min ts.length 150) 4
set_option maxRecDepth 100000 in
set_option maxHeartbeats 8000000 in
theorem right_any (ao : Option Addr) (n c : Nat) (ts : List Tb) (w : World) (hE : TabsV w ao n ts) (hn : n ≤ 9223372036854775807) :
    Calls Try.prog 16 #[.slice ao n c] w fun e w' => ∃ v, e = .returned v ∧ w'.ownsRow w.heap.size 32 36 v (rightL ts).length (flatT (rightL ts)) ∧ Below w.heap.size w w' := by
  have HE : Hid (∀ V, Below w.heap.size w V → TabsV V ao n ts) := fun V hV => hE.keep hV
  have HLN : Hid (ts.length = n) := hE.1
  obtain ⟨m, hm⟩ : ∃ m, m = min n 150 := ⟨_, rfl⟩
  have HM : Hid (m ≤ n ∧ m ≤ 150) := by show _ ∧ _; omega
  have HRL : Hid (rightL ts = rightN ts m 4) := by show _ = _; unfold rightL; rw [HLN.out, ← hm]
  have HMD : Hid (∀ i : Nat, i ≤ m → ¬ i < m → ¬ i < n ∨ ¬ i < 150) := fun i h1 h2 => by omega
  clear hE hm
  go_enter Try.func16, Try.ntmps16
  go_wp2
  go_loopw [3, 4, 5, 6] (fun o x _ _ wr => ∃ k : Nat, x = .int .i64 k ∧ k ≤ 4 ∧ wr.ownsRow w.heap.size 32 36 o (rightN ts m k).length (flatT (rightN ts m k)) ∧ Below w.heap.size w wr) (fun _ x _ _ _ => 4 - (intOf x).toNat)
  case atStart => exact ⟨0, rfl, by omega, own_emptyT w, bel_alloc _ _⟩
  case round =>
    obtain ⟨k, rfl, hk4, hown, hbel⟩ := hrel
    by_cases hk : k < 4
    · have hkz : (k : Int) < 4 := by omega
      have HOO : Hid (wr.ownsRow w.heap.size 32 36 u3 (rightN ts m k).length (flatT (rightN ts m k)) ∧ Below w.heap.size w wr) := And.intro hown hbel
      obtain ⟨A, HA⟩ : ∃ A, Hid (rightN ts m k = A) := ⟨_, rfl⟩
      have HAL : Hid (A.length ≤ 600) := by show _ ≤ _; rw [← HA.out]; have h1 := rightN_len ts m k; have h2 := HM.out.2; have h3 : k * m ≤ 4 * 150 := Nat.mul_le_mul hk4 h2; omega
      have HSK : Hid (rightN ts m (k + 1) = A ++ rgtN ts k m) := by show _ = _; rw [rightN_succ, HA.out]
      rw [HA.out] at HOO
      obtain ⟨wo, hwo⟩ : ∃ W, W = wr := ⟨_, rfl⟩
      subst hwo
      clear hown hbel
      go_wp2
      go_loopw [3, 5, 6] (fun o x _ wr => ∃ q : Nat, x = .int .i64 q ∧ q ≤ m ∧ wr.ownsRow w.heap.size 32 36 o (A ++ rgtN ts k q).length (flatT (A ++ rgtN ts k q)) ∧ Below w.heap.size w wr) (fun _ x _ _ => m - (intOf x).toNat)
      case atStart => exact ⟨0, rfl, by omega, by rw [show A ++ rgtN ts k 0 = A by simp [rgtN]]; exact HOO.out.1, HOO.out.2⟩
      case round =>
        obtain ⟨q, rfl, hqm, hown, hbel⟩ := hrel
        have HOW : Hid (wr.ownsRow w.heap.size 32 36 u3 (A ++ rgtN ts k q).length (flatT (A ++ rgtN ts k q)) ∧ Below w.heap.size w wr) := And.intro hown hbel
        have hBW := hbel
        clear hown hbel
        by_cases hq : q < m
        · have hqn : (q : Int) < (n : Int) := by have := HM.out.1; omega
          have hq1 : (q : Int) < 150 := by have := HM.out.2; omega
          obtain ⟨b, off, hao, hEn⟩ := (HE.out wr hBW).2 (by omega)
          have HRX : Hid (wr.rangeAt b (off + q * 36) (encT (ts.getD q zT))) := tabs_range hEn q (by have := HLN.out; omega) rfl
          have HSU : Hid _ := rgtN_succ ts k q
          have HGL : (rgtN ts k q).length ≤ q := rgtN_len ts k q
          obtain ⟨x, HX⟩ : ∃ x, Hid (ts.getD q zT = x) := ⟨_, rfl⟩
          rw [HX.out] at HRX HSU
          obtain ⟨D, HD⟩ : ∃ D, Hid (A ++ rgtN ts k q = D) := ⟨_, rfl⟩
          have HDL : Hid (D.length ≤ 750) := by show _ ≤ _; rw [← HD.out, List.length_append]; have h1 := HAL.out; have h2 := HM.out.2; omega
          rw [HD.out] at HOW
          have hb4 : bits .and .i64 x.lv 3 = x.lv % 4 := and3 _
          subst hao
          clear hEn hBW HGL
          go_wp2_with (first | (refine wpList_load_mid rfl 32 (.tmp 24) rfl b (off + q * 36) rfl (encT x) _ HRX.out Try.underlying32 rfl (sizeT x) ?_) | (refine wpList_store_box _ rfl (.tmp 6) (.tmp 25) rfl wr.heap.size rfl x rfl _ (heap_alloc_new wr _) rfl ?_))
          intro w1 hbox hchg
          have hb1 : Below wr.heap.size wr w1 := (bel_alloc wr _).trans (hchg.below (Nat.le_refl _) (by simp))
          obtain ⟨c0, c1, -, -⟩ := hbox.four
          have f0 := hbox.frozen 0
          have HBX : Hid (Box w1 wr.heap.size x) := hbox
          have HB1 : Hid (Below wr.heap.size wr w1) := hb1
          clear hbox hchg hb1
          by_cases hlv : x.lv % 4 = (k : Int)
          · have HSU2 : Hid (A ++ rgtN ts k (q + 1) = D ++ [rgt x]) := by show _ = _; rw [HSU.out, if_pos hlv, ← List.append_assoc, HD.out]
            have HLV : Hid _ := hlv
            have hlz : (x.lv % 4 == (k : Int)) = true := by simpa using hlv
            clear hlv HSU
            go_upto_region 11 with fail
            have HB2 : Hid (Box (w1.setCell ⟨wr.heap.size, 0, none⟩ (.int .i64 (k : Int))) wr.heap.size (x.lev k) ∧ Below wr.heap.size wr (w1.setCell ⟨wr.heap.size, 0, none⟩ (.int .i64 (k : Int)))) := ⟨HBX.out.set (encT_lev x k), below_set HBX.out HB1.out (Nat.le_refl _)⟩
            clear c0 c1 f0 HBX HB1 hlz hb4
            generalize w1.setCell ⟨wr.heap.size, 0, none⟩ (.int .i64 (k : Int)) = w2 at *
            have d1 : w2.cell? ⟨wr.heap.size, 1, none⟩ = some (.int .i64 x.ct) := HB2.out.1.four.2.1
            have f1 := HB2.out.1.frozen 1
            have hb6 : bits .and .i64 x.ct 63 = x.ct % 64 := and63 _
            have hc6 : wrap64 (1 + x.ct % 64) = 1 + x.ct % 64 := by unfold wrap64; omega
            go_upto_region 12 with fail
            have HB4 : Hid (Box (w2.setCell ⟨wr.heap.size, 1, none⟩ (.int .i64 (1 + x.ct % 64))) wr.heap.size ((x.lev k).cnt (1 + x.ct % 64)) ∧ Below wr.heap.size wr (w2.setCell ⟨wr.heap.size, 1, none⟩ (.int .i64 (1 + x.ct % 64)))) := ⟨HB2.out.1.set (encT_cnt (x.lev k) _), below_set HB2.out.1 HB2.out.2 (Nat.le_refl _)⟩
            clear d1 f1 HB2 hb6 hc6
            generalize w2.setCell ⟨wr.heap.size, 1, none⟩ (.int .i64 (1 + x.ct % 64)) = w4 at *
            have e3 : w4.cell? ⟨wr.heap.size, 34, none⟩ = some (.string x.first) := HB4.out.1.four.2.2.1
            have e4 : w4.cell? ⟨wr.heap.size, 35, none⟩ = some (.string x.last) := HB4.out.1.four.2.2.2
            have g3 := HB4.out.1.frozen 34
            have g4 := HB4.out.1.frozen 35
            obtain ⟨y2, HY2⟩ : ∃ y, Hid ((x.lev k).cnt (1 + x.ct % 64) = y) := ⟨_, rfl⟩
            rw [HY2.out] at HB4
            rcases le_cases x.first x.last with ⟨a1, a3⟩ | ⟨a1, a2, a3⟩ | ⟨a1, a2, a3⟩
            · have HRG : Hid (y2 = rgt x) := by show _ = _; rw [← HY2.out]; unfold rgt; rw [if_neg (by have := of_decide_eq_true a3; omega), HLV.out]
              clear a3
              have HBZ : Hid (Box w4 wr.heap.size (rgt x) ∧ Below wr.heap.size wr w4) := by show _ ∧ _; rw [← HRG.out]; exact HB4.out
              go_upto_region 14 with fail
              clear e3 e4 g3 g4 HB4
              generalize w4 = wz at *
              have HWZ : Hid (Below w.heap.size w wz) := HOW.out.2.trans (HBZ.out.2.mono HOW.out.2.size)
              have HOA : Hid ((wz.alloc (.cells (encT (rgt x)).toArray 32)).ownsRow w.heap.size 32 36 u3 D.length (flatT D)) := (own_below HOW.out.1 HBZ.out.2 (Nat.le_refl _)).alloc _
              have HBA : Hid (w.heap.size ≤ (wz.alloc (.cells (encT (rgt x)).toArray 32)).heap.size) := by show _ ≤ _; have := HWZ.out.size; simp; omega
              have HBX : Hid (Box wz wr.heap.size (rgt x)) := HBZ.out.1
              clear HBZ
              go_wp2_with (first | (refine wpList_load_row rfl 32 (.tmp 6) rfl wr.heap.size rfl 32 (encT (rgt x)).toArray (0, 0) _ HBX.out Try.underlying32 rfl (sizeTA _) ?_) | (refine wpList_build_tab _ rfl (.tmp 50) rfl (rgt x) rfl ?_) | (at_builtin; refine wpList_append_tabs _ rfl (.tmp 49) (.tmp 51) rfl w.heap.size _ D.length D rfl HOA.out HBA.out _ 1 1 [rgt x] rfl (tabsV_one wz _) (fun h => by cases h) (by have := HDL.out; omega) ?_))
              intro v' w6 hown6 hb6
              have HN : Hid (w6.ownsRow w.heap.size 32 36 v' (D ++ [rgt x]).length (flatT (D ++ [rgt x])) ∧ Below w.heap.size w w6) := And.intro (by simpa using hown6) ((HWZ.out.alloc HWZ.out.size _).trans hb6)
              clear hown6 hb6
              go_wp2
              go_roundw
              case rel => exact ⟨q + 1, by go_num, by omega, by rw [HSU2.out]; exact HN.out.1, HN.out.2⟩
              case measure => simp [intOf]; omega
            · have HRG : Hid (y2 = rgt x) := by show _ = _; rw [← HY2.out]; unfold rgt; rw [if_neg (by have := of_decide_eq_true a3; omega), HLV.out]
              clear a3
              have HBZ : Hid (Box w4 wr.heap.size (rgt x) ∧ Below wr.heap.size wr w4) := by show _ ∧ _; rw [← HRG.out]; exact HB4.out
              go_upto_region 14 with fail
              clear e3 e4 g3 g4 HB4
              generalize w4 = wz at *
              have HWZ : Hid (Below w.heap.size w wz) := HOW.out.2.trans (HBZ.out.2.mono HOW.out.2.size)
              have HOA : Hid ((wz.alloc (.cells (encT (rgt x)).toArray 32)).ownsRow w.heap.size 32 36 u3 D.length (flatT D)) := (own_below HOW.out.1 HBZ.out.2 (Nat.le_refl _)).alloc _
              have HBA : Hid (w.heap.size ≤ (wz.alloc (.cells (encT (rgt x)).toArray 32)).heap.size) := by show _ ≤ _; have := HWZ.out.size; simp; omega
              have HBX : Hid (Box wz wr.heap.size (rgt x)) := HBZ.out.1
              clear HBZ
              go_wp2_with (first | (refine wpList_load_row rfl 32 (.tmp 6) rfl wr.heap.size rfl 32 (encT (rgt x)).toArray (0, 0) _ HBX.out Try.underlying32 rfl (sizeTA _) ?_) | (refine wpList_build_tab _ rfl (.tmp 50) rfl (rgt x) rfl ?_) | (at_builtin; refine wpList_append_tabs _ rfl (.tmp 49) (.tmp 51) rfl w.heap.size _ D.length D rfl HOA.out HBA.out _ 1 1 [rgt x] rfl (tabsV_one wz _) (fun h => by cases h) (by have := HDL.out; omega) ?_))
              intro v' w6 hown6 hb6
              have HN : Hid (w6.ownsRow w.heap.size 32 36 v' (D ++ [rgt x]).length (flatT (D ++ [rgt x])) ∧ Below w.heap.size w w6) := And.intro (by simpa using hown6) ((HWZ.out.alloc HWZ.out.size _).trans hb6)
              clear hown6 hb6
              go_wp2
              go_roundw
              case rel => exact ⟨q + 1, by go_num, by omega, by rw [HSU2.out]; exact HN.out.1, HN.out.2⟩
              case measure => simp [intOf]; omega
            · have HRG : Hid (((y2.fst x.last).lst x.first) = rgt x) := by show _ = _; rw [← HY2.out]; unfold rgt; rw [if_pos (by have := of_decide_eq_false a3; omega), HLV.out]
              clear a3
              have HX3 : Hid (Box (w4.setCell ⟨wr.heap.size, 34, none⟩ (.string x.last)) wr.heap.size (y2.fst x.last) ∧ Below wr.heap.size wr (w4.setCell ⟨wr.heap.size, 34, none⟩ (.string x.last))) := ⟨HB4.out.1.set (encT_fst y2 x.last), below_set HB4.out.1 HB4.out.2 (Nat.le_refl _)⟩
              have HX4 : Hid (Box ((w4.setCell ⟨wr.heap.size, 34, none⟩ (.string x.last)).setCell ⟨wr.heap.size, 35, none⟩ (.string x.first)) wr.heap.size (rgt x) ∧ Below wr.heap.size wr ((w4.setCell ⟨wr.heap.size, 34, none⟩ (.string x.last)).setCell ⟨wr.heap.size, 35, none⟩ (.string x.first))) := by
                show _ ∧ _
                rw [← HRG.out]
                exact ⟨HX3.out.1.set (encT_lst (y2.fst x.last) x.first), below_set HX3.out.1 HX3.out.2 (Nat.le_refl _)⟩
              have g5 : (w4.setCell ⟨wr.heap.size, 34, none⟩ (.string x.last)).frozen? ⟨wr.heap.size, 35, none⟩ = false := HX3.out.1.frozen 35
              have e5 : (w4.setCell ⟨wr.heap.size, 34, none⟩ (.string x.last)).cell? ⟨wr.heap.size, 35, none⟩ = some (.string x.last) := HX3.out.1.at_ (by rw [encT_35]; show some (Value.string y2.last) = _; rw [← HY2.out]; rfl)
              go_upto_region 14 with fail
              clear e3 e4 g3 g4 HB4 g5 e5 HX3
              generalize (w4.setCell ⟨wr.heap.size, 34, none⟩ (.string x.last)).setCell ⟨wr.heap.size, 35, none⟩ (.string x.first) = wz at *
              have HBZ : Hid (Box wz wr.heap.size (rgt x) ∧ Below wr.heap.size wr wz) := HX4.out
              clear HX4
              have HWZ : Hid (Below w.heap.size w wz) := HOW.out.2.trans (HBZ.out.2.mono HOW.out.2.size)
              have HOA : Hid ((wz.alloc (.cells (encT (rgt x)).toArray 32)).ownsRow w.heap.size 32 36 u3 D.length (flatT D)) := (own_below HOW.out.1 HBZ.out.2 (Nat.le_refl _)).alloc _
              have HBA : Hid (w.heap.size ≤ (wz.alloc (.cells (encT (rgt x)).toArray 32)).heap.size) := by show _ ≤ _; have := HWZ.out.size; simp; omega
              have HBX : Hid (Box wz wr.heap.size (rgt x)) := HBZ.out.1
              clear HBZ
              go_wp2_with (first | (refine wpList_load_row rfl 32 (.tmp 6) rfl wr.heap.size rfl 32 (encT (rgt x)).toArray (0, 0) _ HBX.out Try.underlying32 rfl (sizeTA _) ?_) | (refine wpList_build_tab _ rfl (.tmp 50) rfl (rgt x) rfl ?_) | (at_builtin; refine wpList_append_tabs _ rfl (.tmp 49) (.tmp 51) rfl w.heap.size _ D.length D rfl HOA.out HBA.out _ 1 1 [rgt x] rfl (tabsV_one wz _) (fun h => by cases h) (by have := HDL.out; omega) ?_))
              intro v' w6 hown6 hb6
              have HN : Hid (w6.ownsRow w.heap.size 32 36 v' (D ++ [rgt x]).length (flatT (D ++ [rgt x])) ∧ Below w.heap.size w w6) := And.intro (by simpa using hown6) ((HWZ.out.alloc HWZ.out.size _).trans hb6)
              clear hown6 hb6
              go_wp2
              go_roundw
              case rel => exact ⟨q + 1, by go_num, by omega, by rw [HSU2.out]; exact HN.out.1, HN.out.2⟩
              case measure => simp [intOf]; omega
          · have HSU2 : Hid (A ++ rgtN ts k (q + 1) = D) := by show _ = _; rw [HSU.out, if_neg hlv, HD.out]
            have hlz : (x.lv % 4 == (k : Int)) = false := by simpa using hlv
            have HWE : Hid (Below w.heap.size w w1) := HOW.out.2.trans (HB1.out.mono HOW.out.2.size)
            have HOE : Hid (w1.ownsRow w.heap.size 32 36 u3 D.length (flatT D)) := own_below HOW.out.1 HB1.out (Nat.le_refl _)
            clear hlv HSU f0 c1
            go_wp2
            go_roundw
            case rel => exact ⟨q + 1, by go_num, by omega, by rw [HSU2.out]; exact HOE.out, HWE.out⟩
            case measure => simp [intOf]; omega
        · obtain rfl : q = m := by omega
          have HNX : Hid (wr.ownsRow w.heap.size 32 36 u3 (rightN ts q (k + 1)).length (flatT (rightN ts q (k + 1)))) := by show World.ownsRow _ _ _ _ _ _ _; rw [HSK.out]; exact HOW.out.1
          rcases HMD.out q (Nat.le_refl _) (Nat.lt_irrefl _) with h1 | h1
          · have hqn : ¬ (q : Int) < (n : Int) := by omega
            clear hBW h1
            go_wp2
            go_roundw
            case rel => exact ⟨k + 1, by go_num, by omega, HNX.out, HOW.out.2⟩
            case measure => simp [intOf]; omega
          · by_cases h2 : q < n
            · have hqn : (q : Int) < (n : Int) := by omega
              have hq1 : ¬ (q : Int) < 150 := by omega
              clear hBW h1 h2
              go_wp2
              go_roundw
              case rel => exact ⟨k + 1, by go_num, by omega, HNX.out, HOW.out.2⟩
              case measure => simp [intOf]; omega
            · have hqn : ¬ (q : Int) < (n : Int) := by omega
              clear hBW h1 h2
              go_wp2
              go_roundw
              case rel => exact ⟨k + 1, by go_num, by omega, HNX.out, HOW.out.2⟩
              case measure => simp [intOf]; omega
    · have hkz : ¬ (k : Int) < 4 := by omega
      obtain rfl : k = 4 := by omega
      have HO : Hid _ := And.intro hown hbel
      clear hown hbel
      go_wp2
      go_ret
      exact ⟨u3, rfl, by rw [HRL.out]; exact HO.out.1, HO.out.2⟩
end Go.Proofs.Ytnkbhojflcckmaa
