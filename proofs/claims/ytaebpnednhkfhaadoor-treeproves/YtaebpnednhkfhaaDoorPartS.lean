/-
  What tree.CheckRange of a tree answers: contracts over this translation. What tree.CheckRange of a tree answers where it takes nothing: contracts over this translation.
-/
import Derived.Test.YtaebpnednhkfhaaDoorPartR
namespace Go.Proofs.YtaebpnednhkfhaaDoor
open Go.RowKit
theorem wsub {n q : Nat} (h : q ≤ n) (hn : n ≤ 9223372036854775807) : wrap64 ((n : Int) - (q : Int)) = ((n - q : Nat) : Int) := by unfold wrap64; omega
theorem wadd {x q n : Nat} (h : x + q ≤ n) (hn : n ≤ 9223372036854775807) : wrap64 ((x : Int) + (q : Int)) = ((x + q : Nat) : Int) := by unfold wrap64; omega
set_option maxHeartbeats 4000000 in
set_option maxRecDepth 100000 in
theorem crange_some (z : Int) (root : List UInt8) (n x : Nat) (qb qf qn qc : Nat) (ls : List LV) (ao : Option Addr) (L pc : Nat) (ds : List (List UInt8)) (w : World) (hroot : root.length = 32) (hq0 : 0 < qn) (hxn : x + qn ≤ n) (hn : n ≤ 9223372036854775807) (hlen : ds.length = L) (hL : L = (outL 0 n x (x + qn)).length) (hLc : L ≤ pc) (hP : PathV w ao ds)
    (hLs : LeavesV w (some ⟨qb, qf, none⟩) qn qc ls) (hq1 : qn ≤ 1000) (hK : WW w 0 ks) (hz0 : 0 < w.heap.size) (hz : -9223372036854775808 ≤ z ∧ z ≤ 9223372036854775807) :
    Calls Tryd.prog 43 #[.agg #[.int .i64 z], dv root, .int .i64 (n : Int), .int .i64 (x : Int), .slice (some ⟨qb, qf, none⟩) qn qc, .slice ao L pc] w fun e w' => e = .returned (.bool (fillF z ls x (x + qn) 64 0 n ds == root)) ∧ Below w.heap.size w w' := by
  have HO : Hid (∀ W, Calls Tryd.prog 66 #[.agg #[.int .i64 0, .int .i64 (n : Int)], .agg #[.int .i64 (x : Int), .int .i64 ((x + qn : Nat) : Int)]] W fun e w' => ∃ v, e = .returned v ∧ SpV w' W.heap.size v (outL 0 n x (x + qn)) ∧ Below W.heap.size W w') := fun W => outside_any x (x + qn) (by omega) (n - 0) 0 n W rfl (by omega) hn
  have HFA : Hid (∀ (f : Nat) (W : World), w.heap.size ≤ f → Below w.heap.size w W → W.heap[f]? = some (.cells (fillC z x (x + qn) (some ⟨qb, qf, none⟩) qn qc ao ds.length pc) 99 (0, 0)) → Calls Tryd.prog 69 #[.pointer (some ⟨f, 0, none⟩), .agg #[.int .i64 0, .int .i64 (n : Int)]] W fun e w' => e = .returned (.agg (cellsOf (fillF z ls x (x + qn) 64 0 n ds)).toArray) ∧ Chg f W w') := fun f W hf hW hr => by
    have hp := pow63
    have h := fill_any z x (x + qn) (by omega) (by omega) ls qb qf qn qc f w hLs (by omega) hq1 hK hz0 hz hf (by omega) 63 0 n ds ao pc W (by omega) (by omega) hn hW hr hP (by omega) (by omega)
    exact h.mono (fun e w' h => ⟨h.1, h.2.2⟩)
  have HFL : Hid ((fillF z ls x (x + qn) 64 0 n ds).length = 32) := fillF_len z ls x (x + qn) 63 0 n ds hP.1 (by omega)
  have HFL0 := HFL.out
  obtain ⟨u, HU⟩ : ∃ u, Hid (fillF z ls x (x + qn) 64 0 n ds = u) := ⟨_, rfl⟩
  rw [HU.out] at HFA HFL ⊢
  have HUL : Hid (u.length = 32) := HFL.out
  obtain ⟨sp, HSP⟩ : ∃ s, Hid (outL 0 n x (x + qn) = s) := ⟨_, rfl⟩
  rw [HSP.out] at HO hL
  have HLS : Hid (sp.length = L) := hL.symm
  rw [hlen] at HFA
  have HRT : Hid (root.length = 32) := hroot
  have y0 : ((qn : Int) == 0) = false := by simp; omega
  have y1 : ¬ (x : Int) < 0 := by omega
  have y1d : decide ((x : Int) < 0) = false := decide_eq_false y1
  have y2 : ¬ (n : Int) < (qn : Int) := by omega
  have y2d : decide ((n : Int) < (qn : Int)) = false := decide_eq_false y2
  have y2n : decide (n < qn) = false := decide_eq_false (by omega)
  have y4' : x ≤ n - qn := by omega
  have y3 : wrap64 ((n : Int) - (qn : Int)) = ((n - qn : Nat) : Int) := wsub (Nat.le_trans (Nat.le_add_left _ _) hxn) hn
  have y3w : IntKind.i64.wrap ((n : Int) - (qn : Int)) = ((n - qn : Nat) : Int) := (IntWalk.i64_left _).trans y3
  have y5 : wrap64 ((x : Int) + (qn : Int)) = ((x + qn : Nat) : Int) := wadd hxn hn
  obtain ⟨t, HT⟩ : ∃ t, Hid (n - qn = t) := ⟨_, rfl⟩
  obtain ⟨y, HY⟩ : ∃ y, Hid (x + qn = y) := ⟨_, rfl⟩
  rw [HT.out] at y3 y3w y4'
  rw [HY.out] at y5 HO HFA
  have y4 : ¬ (t : Int) < (x : Int) := Int.not_lt.2 (Int.ofNat_le.2 y4')
  have y4d : decide ((t : Int) < (x : Int)) = false := decide_eq_false y4
  have y4n : decide (t < x) = false := decide_eq_false (Nat.not_lt.2 y4')
  have HIR : Hid ((Tryd.prog.info? 24).map (·.size) = some (cellsOf root).length) := by show _ = _; rw [size24, cellsOf_length, hroot]
  clear hroot hq0 hxn hn hlen hL hLc hP hLs hq1 hK hz0 hz HFL0
  unfold dv
  obtain ⟨cr, HCR⟩ : ∃ c, Hid ((cellsOf root).toArray = c) := ⟨_, rfl⟩
  rw [HCR.out]
  go_enter Tryd.func43, Tryd.ntmps43
  go_upto_region 4 with fail
  obtain ⟨W0, HW0⟩ : ∃ W, Hid (W = (((w.alloc (Obj.cells #[Value.int IntKind.i64 z] 30)).alloc (Obj.cells cr 24)).alloc (Obj.cells #[Value.int IntKind.i64 0, Value.int IntKind.i64 (n : Int)] 78)).alloc (Obj.cells #[Value.int IntKind.i64 (x : Int), Value.int IntKind.i64 (y : Int)] 78)) := ⟨_, rfl⟩
  have HF := frame4 w (Obj.cells #[Value.int IntKind.i64 z] 30) (Obj.cells cr 24) (Obj.cells #[Value.int IntKind.i64 0, Value.int IntKind.i64 (n : Int)] 78) #[Value.int IntKind.i64 (x : Int), Value.int IntKind.i64 (y : Int)] 78 W0 HW0.out
  rw [← HW0.out]
  have HFH : Hid _ := HF
  clear HF HW0
  have HS : Hid (∀ W, Below W0.heap.size W0 W → W.cell? ⟨w.heap.size, 0, none⟩ = some (.int .i64 z) ∧ W.cell? ⟨w.heap.size + 2, 0, none⟩ = some (.int .i64 0) ∧ W.cell? ⟨w.heap.size + 2, 1, none⟩ = some (.int .i64 (n : Int)) ∧ W.cell? ⟨w.heap.size + 3, 0, none⟩ = some (.int .i64 (x : Int)) ∧ W.cell? ⟨w.heap.size + 3, 1, none⟩ = some (.int .i64 (y : Int))) := fun W hW =>
    ⟨bel_cell2 hW (Nat.le_refl _) (by rw [cell_of_row W0 _ 0 _ _ _ HFH.out.1]; rfl), bel_cell2 hW (Nat.le_refl _) (by rw [cell_of_row W0 _ 0 _ _ _ HFH.out.2.2.1]; rfl), bel_cell2 hW (Nat.le_refl _) (by rw [cell_of_row W0 _ 1 _ _ _ HFH.out.2.2.1]; rfl), bel_cell2 hW (Nat.le_refl _) (by rw [cell_of_row W0 _ 0 _ _ _ HFH.out.2.2.2.1]; rfl), bel_cell2 hW (Nat.le_refl _) (by rw [cell_of_row W0 _ 1 _ _ _ HFH.out.2.2.2.1]; rfl)⟩
  obtain ⟨q0, q1, q2, q3, q4⟩ := HS.out _ (Below.refl _ _)
  clear y0 y1 y1d y2 y2d y2n y3 y3w y4 y4d y4n y5 y4'
  go_wp2_with fail
  refine (HO.out _).mono ?_
  rintro e w1 ⟨v1, rfl, hs1, hb1⟩
  obtain ⟨aoS, cS, rfl, -⟩ := hs1.shape
  rw [HLS.out]
  have HB1 : Hid (Below W0.heap.size W0 w1) := hb1
  clear q0 q1 q2 q3 q4 hs1 hb1
  obtain ⟨q0, q1, q2, q3, q4⟩ := HS.out _ HB1.out
  go_upto_region 7 with fail
  have hn2 : (w1.alloc (Obj.cells #[.int .i64 z, .int .i64 (x : Int), .int .i64 (y : Int), .slice (some ⟨qb, qf, none⟩) qn qc, .slice ao L pc] 99)).heap[w1.heap.size]? = some (.cells (fillC z x y (some ⟨qb, qf, none⟩) qn qc ao L pc) 99 (0, 0)) := heap_alloc_new w1 _
  have hb2 := bel_alloc w1 (Obj.cells #[.int .i64 z, .int .i64 (x : Int), .int .i64 (y : Int), .slice (some ⟨qb, qf, none⟩) qn qc, .slice ao L pc] 99)
  obtain ⟨W2, HW2⟩ : ∃ W, Hid (w1.alloc (Obj.cells #[.int .i64 z, .int .i64 (x : Int), .int .i64 (y : Int), .slice (some ⟨qb, qf, none⟩) qn qc, .slice ao L pc] 99) = W) := ⟨_, rfl⟩
  rw [HW2.out] at hn2 hb2 ⊢
  have HN2 : Hid _ := hn2
  have HB2 : Hid (Below W0.heap.size W0 W2) := HB1.out.trans (hb2.mono HB1.out.size)
  have HBW : Hid (Below w.heap.size w W2) := HFH.out.2.2.2.2.1.trans (HB2.out.mono (by rw [HFH.out.2.2.2.2.2]; omega))
  have HF1 : Hid (w.heap.size ≤ w1.heap.size ∧ w.heap.size + 2 < W0.heap.size ∧ W0.heap.size ≤ w1.heap.size) := by
    have h1 := HB1.out.size
    have h2 := HFH.out.2.2.2.2.2
    show _ ∧ _ ∧ _
    omega
  have HS2 : Hid (∀ W, Chg w1.heap.size W2 W → W.cell? ⟨w.heap.size + 2, 0, none⟩ = some (.int .i64 0) ∧ W.cell? ⟨w.heap.size + 2, 1, none⟩ = some (.int .i64 (n : Int)) ∧ W.rangeAt (w.heap.size + 1) 0 (cellsOf root)) := fun W hW =>
    ⟨chg_cell hW (HS.out _ HB2.out).2.1 (show w.heap.size + 2 ≠ w1.heap.size by have := HF1.out; omega), chg_cell hW (HS.out _ HB2.out).2.2.1 (show w.heap.size + 2 ≠ w1.heap.size by have := HF1.out; omega), chg_range hW (range_bel (range_of (by rw [HCR.out]; exact HFH.out.2.1)) HB2.out (Nat.le_refl _)) (by have := HF1.out; omega)⟩
  have heq := eq_dig u root HUL.out HRT.out
  have heq2 := equalIn_dig u root HUL.out HRT.out
  have hg := guard24
  obtain ⟨v, HV⟩ : ∃ v, Hid ((u == root) = v) := ⟨_, rfl⟩
  rw [HV.out] at heq heq2
  clear hn2 hb2 HW2 q0 q1 q2 q3 q4
  refine wp_region_held_drew (S := fun W => W.cell? ⟨w.heap.size + 2, 0, none⟩ = some (.int .i64 0) ∧ W.cell? ⟨w.heap.size + 2, 1, none⟩ = some (.int .i64 (n : Int)) ∧ W.rangeAt (w.heap.size + 1) 0 (cellsOf root)) (by kernel_rfl) (HS2.out _ (Chg.refl _ _).drew) (fun hS => ?_)
  refine wpAnyH_take (i := 0) (v := ?_) rfl (by kernel_rfl) (by kernel_rfl) (by kernel_rfl) (fun _ _ _ h => h) (Or.inl ⟨by rfl, ?_⟩) (by assumption) ?_
  rotate_left
  · (intro w hSw; (try dsimp only at hSw); go_simp; try with_reducible rfl)
  simp only [Act.put, List.getElem_toArray, List.getElem_cons_zero, List.setIfInBounds_toArray, List.set_cons_zero, List.set_cons_succ]
  refine wpAnyH_take (i := 2) (v := .agg (cellsOf root).toArray) rfl (by kernel_rfl) (by kernel_rfl) (by kernel_rfl) (fun _ _ _ h => h) (yieldsIf_load_mid (by rfl) 24 (.tmp 7) rfl (w.heap.size + 1) 0 rfl (cellsOf root) _ (fun _ h => h.2.2) Tryd.underlying24 rfl HIR.out) (by assumption) ?_
  simp only [Act.put, List.getElem_toArray, List.getElem_cons_zero, List.getElem_cons_succ, List.setIfInBounds_toArray, List.set_cons_zero, List.set_cons_succ]
  refine wpAnyH_ready (rs := [1]) (by kernel_rfl) (by simp) ?_
  refine AllReadyH.cons rfl (fun K hK => ?_) AllReadyH.nil
  go_simp
  refine (HFA.out _ _ HF1.out.1 (Below.drew HBW.out) HN2.out).mono ?_
  rintro e w3 ⟨rfl, hc3⟩
  have HC3 : Hid (Chg w1.heap.size W2 w3) := (Chg.refl _ _).drew.trans hc3
  go_wp2_with fail
  refine hK.out _ _ (HS2.out _ HC3.out) (fun hHeld2 => ?_)
  clear hK K hc3
  refine wpAnyH_take (i := 3) (v := ?_) rfl (by kernel_rfl) (by kernel_rfl) (by kernel_rfl) (fun _ _ _ h => h) (Or.inl ⟨by rfl, ?_⟩) (by assumption) ?_
  rotate_left
  · (intro w hSw; (try dsimp only at hSw); go_simp; try with_reducible rfl)
  simp only [Act.put, List.getElem_toArray, List.getElem_cons_zero, List.getElem_cons_succ, List.setIfInBounds_toArray, List.set_cons_zero, List.set_cons_succ]
  refine wpAnyH_take (i := 4) (v := ?_) rfl (by kernel_rfl) (by kernel_rfl) (by kernel_rfl) (fun _ _ _ h => h) (Or.inl ⟨by rfl, ?_⟩) (by assumption) ?_
  rotate_left
  · (intro w hSw; (try dsimp only at hSw); go_simp; try with_reducible rfl)
  simp only [Act.put, List.getElem_toArray, List.getElem_cons_zero, List.getElem_cons_succ, List.setIfInBounds_toArray, List.set_cons_zero, List.set_cons_succ]
  refine wpAnyH_done (by kernel_rfl) ?_ _
  clear hS hHeld2
  go_wp2_with fail
  go_ret
  refine ⟨by rw [HV.out]; rfl, HBW.out.trans ?_⟩
  exact HC3.out.below HF1.out.1 HBW.out.size
end Go.Proofs.YtaebpnednhkfhaaDoor
namespace Go.Proofs.YtaebpnednhkfhaaDoor
open Go.RowKit
theorem wsub_i {n q : Int} (h0 : 0 ≤ q) (h : q ≤ n) (hn : n ≤ 9223372036854775807) : wrap64 (n - q) = n - q := by unfold wrap64; omega
set_option maxHeartbeats 4000000 in
set_option maxRecDepth 100000 in
theorem crange_wrong (z : Int) (root : List UInt8) (n x : Int) (qo : Option Addr) (qn qc : Nat) (pa : Value) (w : World) (hn : n ≤ 9223372036854775807) (hno : ¬ (0 < qn ∧ 0 ≤ x ∧ x + qn ≤ n)) :
    Calls Tryd.prog 43 #[.agg #[.int .i64 z], dv root, .int .i64 n, .int .i64 x, .slice qo qn qc, pa] w fun e w' => e = .returned (.bool false) ∧ Below w.heap.size w w' := by
  unfold dv
  obtain ⟨cr, HCR⟩ : ∃ c, Hid ((cellsOf root).toArray = c) := ⟨_, rfl⟩
  rw [HCR.out]
  by_cases h0 : qn = 0
  · subst h0
    clear hno
    go_enter Tryd.func43, Tryd.ntmps43
    go_wp2
    go_ret
    exact ⟨rfl, (bel_alloc _ _).trans ((bel_alloc _ _).mono (by simp))⟩
  by_cases h1 : x < 0
  · have y0 : ((qn : Int) == 0) = false := by simp; omega
    clear hno h0
    go_enter Tryd.func43, Tryd.ntmps43
    go_wp2
    go_ret
    exact ⟨rfl, (bel_alloc _ _).trans ((bel_alloc _ _).mono (by simp))⟩
  by_cases h2 : n < (qn : Int)
  · have y0 : ((qn : Int) == 0) = false := by simp; omega
    have h1d : decide (x < 0) = false := decide_eq_false h1
    clear hno h0
    go_enter Tryd.func43, Tryd.ntmps43
    go_wp2
    go_ret
    exact ⟨rfl, (bel_alloc _ _).trans ((bel_alloc _ _).mono (by simp))⟩
  · have y0 : ((qn : Int) == 0) = false := by simp; omega
    have h1d : decide (x < 0) = false := decide_eq_false h1
    have h2d : decide (n < (qn : Int)) = false := decide_eq_false h2
    have y3 : wrap64 (n - (qn : Int)) = n - (qn : Int) := wsub_i (by omega) (by omega) hn
    have y4' : n - (qn : Int) < x := by omega
    obtain ⟨t, HT⟩ : ∃ t, Hid (n - (qn : Int) = t) := ⟨_, rfl⟩
    have HTo := HT.out
    have y3 : wrap64 (n - (qn : Int)) = t := y3.trans HTo
    rw [HTo] at y4'
    have y3w : IntKind.i64.wrap (n - (qn : Int)) = t := (IntWalk.i64_left _).trans y3
    have y4d : decide (t < x) = true := decide_eq_true y4'
    clear hno h0 hn HTo
    go_enter Tryd.func43, Tryd.ntmps43
    go_wp2
    go_ret
    exact ⟨rfl, (bel_alloc _ _).trans ((bel_alloc _ _).mono (by simp))⟩
set_option maxHeartbeats 4000000 in
set_option maxRecDepth 100000 in
theorem crange_len (z : Int) (root : List UInt8) (n x : Nat) (qo : Option Addr) (qn qc : Nat) (ao : Option Addr) (m pc : Nat) (w : World) (hq0 : 0 < qn) (hxn : x + qn ≤ n) (hn : n ≤ 9223372036854775807) (hne : m ≠ (outL 0 n x (x + qn)).length) :
    Calls Tryd.prog 43 #[.agg #[.int .i64 z], dv root, .int .i64 (n : Int), .int .i64 (x : Int), .slice qo qn qc, .slice ao m pc] w fun e w' => e = .returned (.bool false) ∧ Below w.heap.size w w' := by
  have HO : Hid (∀ W, Calls Tryd.prog 66 #[.agg #[.int .i64 0, .int .i64 (n : Int)], .agg #[.int .i64 (x : Int), .int .i64 ((x + qn : Nat) : Int)]] W fun e w' => ∃ v, e = .returned v ∧ SpV w' W.heap.size v (outL 0 n x (x + qn)) ∧ Below W.heap.size W w') := fun W => outside_any x (x + qn) (by omega) (n - 0) 0 n W rfl (by omega) hn
  obtain ⟨sp, HSP⟩ : ∃ s, Hid (outL 0 n x (x + qn) = s) := ⟨_, rfl⟩
  rw [HSP.out] at HO hne
  have y0 : ((qn : Int) == 0) = false := by simp; omega
  have y1 : ¬ (x : Int) < 0 := by omega
  have y1d : decide ((x : Int) < 0) = false := decide_eq_false y1
  have y2 : ¬ (n : Int) < (qn : Int) := by omega
  have y2d : decide ((n : Int) < (qn : Int)) = false := decide_eq_false y2
  have y2n : decide (n < qn) = false := decide_eq_false (by omega)
  have y4' : x ≤ n - qn := by omega
  have y3 : wrap64 ((n : Int) - (qn : Int)) = ((n - qn : Nat) : Int) := wsub (Nat.le_trans (Nat.le_add_left _ _) hxn) hn
  have y3w : IntKind.i64.wrap ((n : Int) - (qn : Int)) = ((n - qn : Nat) : Int) := (IntWalk.i64_left _).trans y3
  have y5 : wrap64 ((x : Int) + (qn : Int)) = ((x + qn : Nat) : Int) := wadd hxn hn
  obtain ⟨t, HT⟩ : ∃ t, Hid (n - qn = t) := ⟨_, rfl⟩
  obtain ⟨y, HY⟩ : ∃ y, Hid (x + qn = y) := ⟨_, rfl⟩
  rw [HT.out] at y3 y3w y4'
  rw [HY.out] at y5 HO
  have y4 : ¬ (t : Int) < (x : Int) := Int.not_lt.2 (Int.ofNat_le.2 y4')
  have y4d : decide ((t : Int) < (x : Int)) = false := decide_eq_false y4
  have y4n : decide (t < x) = false := decide_eq_false (Nat.not_lt.2 y4')
  clear hq0 hxn hn
  unfold dv
  obtain ⟨cr, HCR⟩ : ∃ c, Hid ((cellsOf root).toArray = c) := ⟨_, rfl⟩
  rw [HCR.out]
  go_enter Tryd.func43, Tryd.ntmps43
  go_upto_region 4 with fail
  obtain ⟨W0, HW0⟩ : ∃ W, Hid (W = (((w.alloc (Obj.cells #[Value.int IntKind.i64 z] 30)).alloc (Obj.cells cr 24)).alloc (Obj.cells #[Value.int IntKind.i64 0, Value.int IntKind.i64 (n : Int)] 78)).alloc (Obj.cells #[Value.int IntKind.i64 (x : Int), Value.int IntKind.i64 (y : Int)] 78)) := ⟨_, rfl⟩
  have HF := frame4 w (Obj.cells #[Value.int IntKind.i64 z] 30) (Obj.cells cr 24) (Obj.cells #[Value.int IntKind.i64 0, Value.int IntKind.i64 (n : Int)] 78) #[Value.int IntKind.i64 (x : Int), Value.int IntKind.i64 (y : Int)] 78 W0 HW0.out
  rw [← HW0.out]
  have HFH : Hid _ := HF
  clear HF HW0
  have HS : Hid (∀ W, Below W0.heap.size W0 W → W.cell? ⟨w.heap.size, 0, none⟩ = some (.int .i64 z) ∧ W.cell? ⟨w.heap.size + 2, 0, none⟩ = some (.int .i64 0) ∧ W.cell? ⟨w.heap.size + 2, 1, none⟩ = some (.int .i64 (n : Int)) ∧ W.cell? ⟨w.heap.size + 3, 0, none⟩ = some (.int .i64 (x : Int)) ∧ W.cell? ⟨w.heap.size + 3, 1, none⟩ = some (.int .i64 (y : Int))) := fun W hW =>
    ⟨bel_cell2 hW (Nat.le_refl _) (by rw [cell_of_row W0 _ 0 _ _ _ HFH.out.1]; rfl), bel_cell2 hW (Nat.le_refl _) (by rw [cell_of_row W0 _ 0 _ _ _ HFH.out.2.2.1]; rfl), bel_cell2 hW (Nat.le_refl _) (by rw [cell_of_row W0 _ 1 _ _ _ HFH.out.2.2.1]; rfl), bel_cell2 hW (Nat.le_refl _) (by rw [cell_of_row W0 _ 0 _ _ _ HFH.out.2.2.2.1]; rfl), bel_cell2 hW (Nat.le_refl _) (by rw [cell_of_row W0 _ 1 _ _ _ HFH.out.2.2.2.1]; rfl)⟩
  obtain ⟨q0, q1, q2, q3, q4⟩ := HS.out _ (Below.refl _ _)
  clear y0 y1 y1d y2 y2d y2n y3 y3w y4 y4d y4n y5 y4'
  go_wp2_with fail
  refine (HO.out _).mono ?_
  rintro e w1 ⟨v1, rfl, hs1, hb1⟩
  obtain ⟨aoS, cS, rfl, -⟩ := hs1.shape
  have HB1 : Hid (Below W0.heap.size W0 w1) := hb1
  clear q0 q1 q2 q3 q4 hs1 hb1
  have y3 : ((m : Int) == (sp.length : Int)) = false := by simp; omega
  clear hne
  go_wp2_with fail
  go_ret
  exact ⟨rfl, HFH.out.2.2.2.2.1.trans (HB1.out.mono (by rw [HFH.out.2.2.2.2.2]; omega))⟩
end Go.Proofs.YtaebpnednhkfhaaDoor
