/-
  What tree.CheckRange of a tree answers where it takes nothing: contracts over this translation.
-/
import Derived.Test.YtaebpnednhkfhaaDoorCrg
namespace Go.Proofs.YtaebpnednhkfhaaDoor
open Go.RowKit
theorem wsub_i {n q : Int} (h0 : 0 ≤ q) (h : q ≤ n) (hn : n ≤ 9223372036854775807) : wrap64 (n - q) = n - q := by unfold wrap64; omega
set_option maxHeartbeats 4000000 in
set_option maxRecDepth 100000 in
theorem crange_wrong (z : Int) (root : List UInt8) (n x : Int) (qo : Option Addr) (qn qc : Nat) (pa : Value) (w : World) (hn : n ≤ 9223372036854775807) (hno : ¬ (0 < qn ∧ 0 ≤ x ∧ x + qn ≤ n)) :
    Calls Tryd.prog 43 #[.agg #[.int .i64 z], dv root, .int .i64 n, .int .i64 x, .slice qo qn qc, pa] w fun e w' => e = .returned (.bool false) ∧ Below w.heap.size w w' := by
  unfold dv
  obtain ⟨cr, HCR⟩ : ∃ c, Hid ((cellsOf root).toArray = c) := ⟨_, rfl⟩
  rw [HCR.out]
  by_cases h0 : qn = 0
  · subst h0
    clear hno
    go_enter Tryd.func43, Tryd.ntmps43
    go_wp2
    go_ret
    exact ⟨rfl, (bel_alloc _ _).trans ((bel_alloc _ _).mono (by simp))⟩
  by_cases h1 : x < 0
  · have y0 : ((qn : Int) == 0) = false := by simp; omega
    clear hno h0
    go_enter Tryd.func43, Tryd.ntmps43
    go_wp2
    go_ret
    exact ⟨rfl, (bel_alloc _ _).trans ((bel_alloc _ _).mono (by simp))⟩
  by_cases h2 : n < (qn : Int)
  · have y0 : ((qn : Int) == 0) = false := by simp; omega
    have h1d : decide (x < 0) = false := decide_eq_false h1
    clear hno h0
    go_enter Tryd.func43, Tryd.ntmps43
    go_wp2
    go_ret
    exact ⟨rfl, (bel_alloc _ _).trans ((bel_alloc _ _).mono (by simp))⟩
  · have y0 : ((qn : Int) == 0) = false := by simp; omega
    have h1d : decide (x < 0) = false := decide_eq_false h1
    have h2d : decide (n < (qn : Int)) = false := decide_eq_false h2
    have y3 : wrap64 (n - (qn : Int)) = n - (qn : Int) := wsub_i (by omega) (by omega) hn
    have y4' : n - (qn : Int) < x := by omega
    obtain ⟨t, HT⟩ : ∃ t, Hid (n - (qn : Int) = t) := ⟨_, rfl⟩
    have HTo := HT.out
    have y3 : wrap64 (n - (qn : Int)) = t := y3.trans HTo
    rw [HTo] at y4'
    have y3w : IntKind.i64.wrap (n - (qn : Int)) = t := (IntWalk.i64_left _).trans y3
    have y4d : decide (t < x) = true := decide_eq_true y4'
    clear hno h0 hn HTo
    go_enter Tryd.func43, Tryd.ntmps43
    go_wp2
    go_ret
    exact ⟨rfl, (bel_alloc _ _).trans ((bel_alloc _ _).mono (by simp))⟩
set_option maxHeartbeats 4000000 in
set_option maxRecDepth 100000 in
theorem crange_len (z : Int) (root : List UInt8) (n x : Nat) (qo : Option Addr) (qn qc : Nat) (ao : Option Addr) (m pc : Nat) (w : World) (hq0 : 0 < qn) (hxn : x + qn ≤ n) (hn : n ≤ 9223372036854775807) (hne : m ≠ (outL 0 n x (x + qn)).length) :
    Calls Tryd.prog 43 #[.agg #[.int .i64 z], dv root, .int .i64 (n : Int), .int .i64 (x : Int), .slice qo qn qc, .slice ao m pc] w fun e w' => e = .returned (.bool false) ∧ Below w.heap.size w w' := by
  have HO : Hid (∀ W, Calls Tryd.prog 66 #[.agg #[.int .i64 0, .int .i64 (n : Int)], .agg #[.int .i64 (x : Int), .int .i64 ((x + qn : Nat) : Int)]] W fun e w' => ∃ v, e = .returned v ∧ SpV w' W.heap.size v (outL 0 n x (x + qn)) ∧ Below W.heap.size W w') := fun W => outside_any x (x + qn) (by omega) (n - 0) 0 n W rfl (by omega) hn
  obtain ⟨sp, HSP⟩ : ∃ s, Hid (outL 0 n x (x + qn) = s) := ⟨_, rfl⟩
  rw [HSP.out] at HO hne
  have y0 : ((qn : Int) == 0) = false := by simp; omega
  have y1 : ¬ (x : Int) < 0 := by omega
  have y1d : decide ((x : Int) < 0) = false := decide_eq_false y1
  have y2 : ¬ (n : Int) < (qn : Int) := by omega
  have y2d : decide ((n : Int) < (qn : Int)) = false := decide_eq_false y2
  have y2n : decide (n < qn) = false := decide_eq_false (by omega)
  have y4' : x ≤ n - qn := by omega
  have y3 : wrap64 ((n : Int) - (qn : Int)) = ((n - qn : Nat) : Int) := wsub (Nat.le_trans (Nat.le_add_left _ _) hxn) hn
  have y3w : IntKind.i64.wrap ((n : Int) - (qn : Int)) = ((n - qn : Nat) : Int) := (IntWalk.i64_left _).trans y3
  have y5 : wrap64 ((x : Int) + (qn : Int)) = ((x + qn : Nat) : Int) := wadd hxn hn
  obtain ⟨t, HT⟩ : ∃ t, Hid (n - qn = t) := ⟨_, rfl⟩
  obtain ⟨y, HY⟩ : ∃ y, Hid (x + qn = y) := ⟨_, rfl⟩
  rw [HT.out] at y3 y3w y4'
  rw [HY.out] at y5 HO
  have y4 : ¬ (t : Int) < (x : Int) := Int.not_lt.2 (Int.ofNat_le.2 y4')
  have y4d : decide ((t : Int) < (x : Int)) = false := decide_eq_false y4
  have y4n : decide (t < x) = false := decide_eq_false (Nat.not_lt.2 y4')
  clear hq0 hxn hn
  unfold dv
  obtain ⟨cr, HCR⟩ : ∃ c, Hid ((cellsOf root).toArray = c) := ⟨_, rfl⟩
  rw [HCR.out]
  go_enter Tryd.func43, Tryd.ntmps43
  go_upto_region 4 with fail
  obtain ⟨W0, HW0⟩ : ∃ W, Hid (W = (((w.alloc (Obj.cells #[Value.int IntKind.i64 z] 30)).alloc (Obj.cells cr 24)).alloc (Obj.cells #[Value.int IntKind.i64 0, Value.int IntKind.i64 (n : Int)] 78)).alloc (Obj.cells #[Value.int IntKind.i64 (x : Int), Value.int IntKind.i64 (y : Int)] 78)) := ⟨_, rfl⟩
  have HF := frame4 w (Obj.cells #[Value.int IntKind.i64 z] 30) (Obj.cells cr 24) (Obj.cells #[Value.int IntKind.i64 0, Value.int IntKind.i64 (n : Int)] 78) #[Value.int IntKind.i64 (x : Int), Value.int IntKind.i64 (y : Int)] 78 W0 HW0.out
  rw [← HW0.out]
  have HFH : Hid _ := HF
  clear HF HW0
  have HS : Hid (∀ W, Below W0.heap.size W0 W → W.cell? ⟨w.heap.size, 0, none⟩ = some (.int .i64 z) ∧ W.cell? ⟨w.heap.size + 2, 0, none⟩ = some (.int .i64 0) ∧ W.cell? ⟨w.heap.size + 2, 1, none⟩ = some (.int .i64 (n : Int)) ∧ W.cell? ⟨w.heap.size + 3, 0, none⟩ = some (.int .i64 (x : Int)) ∧ W.cell? ⟨w.heap.size + 3, 1, none⟩ = some (.int .i64 (y : Int))) := fun W hW =>
    ⟨bel_cell2 hW (Nat.le_refl _) (by rw [cell_of_row W0 _ 0 _ _ _ HFH.out.1]; rfl), bel_cell2 hW (Nat.le_refl _) (by rw [cell_of_row W0 _ 0 _ _ _ HFH.out.2.2.1]; rfl), bel_cell2 hW (Nat.le_refl _) (by rw [cell_of_row W0 _ 1 _ _ _ HFH.out.2.2.1]; rfl), bel_cell2 hW (Nat.le_refl _) (by rw [cell_of_row W0 _ 0 _ _ _ HFH.out.2.2.2.1]; rfl), bel_cell2 hW (Nat.le_refl _) (by rw [cell_of_row W0 _ 1 _ _ _ HFH.out.2.2.2.1]; rfl)⟩
  obtain ⟨q0, q1, q2, q3, q4⟩ := HS.out _ (Below.refl _ _)
  clear y0 y1 y1d y2 y2d y2n y3 y3w y4 y4d y4n y5 y4'
  go_wp2_with fail
  refine (HO.out _).mono ?_
  rintro e w1 ⟨v1, rfl, hs1, hb1⟩
  obtain ⟨aoS, cS, rfl, -⟩ := hs1.shape
  have HB1 : Hid (Below W0.heap.size W0 w1) := hb1
  clear q0 q1 q2 q3 q4 hs1 hb1
  have y3 : ((m : Int) == (sp.length : Int)) = false := by simp; omega
  clear hne
  go_wp2_with fail
  go_ret
  exact ⟨rfl, HFH.out.2.2.2.2.1.trans (HB1.out.mono (by rw [HFH.out.2.2.2.2.2]; omega))⟩
end Go.Proofs.YtaebpnednhkfhaaDoor
