/-
  What tree's Path, Range, Check and CheckRange, by one name, answer: contracts over this translation. What tree.CheckRange of a tree answers where it takes nothing: contracts over this translation. A row of digests as a path; three leaves that a call lays. No walk.
-/
import Derived.Test.YtecacjddggljgaaDoorPartCF
namespace Go.Proofs.YtecacjddggljgaaDoor.Sm
open Go.RowKit
end Go.Proofs.YtecacjddggljgaaDoor.Sm
namespace Go.Proofs.YtecacjddggljgaaDoor.Sm
open Go.RowKit
theorem wsub_i {n q : Int} (h0 : 0 ≤ q) (h : q ≤ n) (hn : n ≤ 9223372036854775807) : wrap64 (n - q) = n - q := by unfold wrap64; omega
set_option maxHeartbeats 4000000 in
set_option maxRecDepth 100000 in
theorem crange_wrong (z : Int) (root : List UInt8) (n x : Int) (qo : Option Addr) (qn qc : Nat) (pa : Value) (w : World) (hn : n ≤ 9223372036854775807) (hno : ¬ (0 < qn ∧ 0 ≤ x ∧ x + qn ≤ n)) :
    Calls Tryd.prog 54 #[.agg #[.int .i64 z], dv root, .int .i64 n, .int .i64 x, .slice qo qn qc, pa] w fun e w' => e = .returned (.bool false) ∧ Below w.heap.size w w' := by
  unfold dv
  obtain ⟨cr, HCR⟩ : ∃ c, Hid ((cellsOf root).toArray = c) := ⟨_, rfl⟩
  rw [HCR.out]
  by_cases h0 : qn = 0
  · subst h0
    clear hno
    go_enter Tryd.func54, Tryd.ntmps54
    go_wp2
    go_ret
    exact ⟨rfl, (bel_alloc _ _).trans ((bel_alloc _ _).mono (by simp))⟩
  by_cases h1 : x < 0
  · have y0 : ((qn : Int) == 0) = false := by simp; omega
    clear hno h0
    go_enter Tryd.func54, Tryd.ntmps54
    go_wp2
    go_ret
    exact ⟨rfl, (bel_alloc _ _).trans ((bel_alloc _ _).mono (by simp))⟩
  by_cases h2 : n < (qn : Int)
  · have y0 : ((qn : Int) == 0) = false := by simp; omega
    have h1d : decide (x < 0) = false := decide_eq_false h1
    clear hno h0
    go_enter Tryd.func54, Tryd.ntmps54
    go_wp2
    go_ret
    exact ⟨rfl, (bel_alloc _ _).trans ((bel_alloc _ _).mono (by simp))⟩
  · have y0 : ((qn : Int) == 0) = false := by simp; omega
    have h1d : decide (x < 0) = false := decide_eq_false h1
    have h2d : decide (n < (qn : Int)) = false := decide_eq_false h2
    have y3 : wrap64 (n - (qn : Int)) = n - (qn : Int) := wsub_i (by omega) (by omega) hn
    have y4' : n - (qn : Int) < x := by omega
    obtain ⟨t, HT⟩ : ∃ t, Hid (n - (qn : Int) = t) := ⟨_, rfl⟩
    have HTo := HT.out
    have y3 : wrap64 (n - (qn : Int)) = t := y3.trans HTo
    rw [HTo] at y4'
    have y3w : IntKind.i64.wrap (n - (qn : Int)) = t := (IntWalk.i64_left _).trans y3
    have y4d : decide (t < x) = true := decide_eq_true y4'
    clear hno h0 hn HTo
    go_enter Tryd.func54, Tryd.ntmps54
    go_wp2
    go_ret
    exact ⟨rfl, (bel_alloc _ _).trans ((bel_alloc _ _).mono (by simp))⟩
set_option maxHeartbeats 4000000 in
set_option maxRecDepth 100000 in
theorem crange_len (z : Int) (root : List UInt8) (n x : Nat) (qo : Option Addr) (qn qc : Nat) (ao : Option Addr) (m pc : Nat) (w : World) (hq0 : 0 < qn) (hxn : x + qn ≤ n) (hn : n ≤ 9223372036854775807) (hne : m ≠ (outL 0 n x (x + qn)).length) :
    Calls Tryd.prog 54 #[.agg #[.int .i64 z], dv root, .int .i64 (n : Int), .int .i64 (x : Int), .slice qo qn qc, .slice ao m pc] w fun e w' => e = .returned (.bool false) ∧ Below w.heap.size w w' := by
  have HO : Hid (∀ W, Calls Tryd.prog 74 #[.agg #[.int .i64 0, .int .i64 (n : Int)], .agg #[.int .i64 (x : Int), .int .i64 ((x + qn : Nat) : Int)]] W fun e w' => ∃ v, e = .returned v ∧ SpV w' W.heap.size v (outL 0 n x (x + qn)) ∧ Below W.heap.size W w') := fun W => outside_any x (x + qn) (by omega) (n - 0) 0 n W rfl (by omega) hn
  obtain ⟨sp, HSP⟩ : ∃ s, Hid (outL 0 n x (x + qn) = s) := ⟨_, rfl⟩
  rw [HSP.out] at HO hne
  have y0 : ((qn : Int) == 0) = false := by simp; omega
  have y1 : ¬ (x : Int) < 0 := by omega
  have y1d : decide ((x : Int) < 0) = false := decide_eq_false y1
  have y2 : ¬ (n : Int) < (qn : Int) := by omega
  have y2d : decide ((n : Int) < (qn : Int)) = false := decide_eq_false y2
  have y2n : decide (n < qn) = false := decide_eq_false (by omega)
  have y4' : x ≤ n - qn := by omega
  have y3 : wrap64 ((n : Int) - (qn : Int)) = ((n - qn : Nat) : Int) := wsub (Nat.le_trans (Nat.le_add_left _ _) hxn) hn
  have y3w : IntKind.i64.wrap ((n : Int) - (qn : Int)) = ((n - qn : Nat) : Int) := (IntWalk.i64_left _).trans y3
  have y5 : wrap64 ((x : Int) + (qn : Int)) = ((x + qn : Nat) : Int) := wadd hxn hn
  obtain ⟨t, HT⟩ : ∃ t, Hid (n - qn = t) := ⟨_, rfl⟩
  obtain ⟨y, HY⟩ : ∃ y, Hid (x + qn = y) := ⟨_, rfl⟩
  rw [HT.out] at y3 y3w y4'
  rw [HY.out] at y5 HO
  have y4 : ¬ (t : Int) < (x : Int) := Int.not_lt.2 (Int.ofNat_le.2 y4')
  have y4d : decide ((t : Int) < (x : Int)) = false := decide_eq_false y4
  have y4n : decide (t < x) = false := decide_eq_false (Nat.not_lt.2 y4')
  clear hq0 hxn hn
  unfold dv
  obtain ⟨cr, HCR⟩ : ∃ c, Hid ((cellsOf root).toArray = c) := ⟨_, rfl⟩
  rw [HCR.out]
  go_enter Tryd.func54, Tryd.ntmps54
  go_upto_region 4 with fail
  obtain ⟨W0, HW0⟩ : ∃ W, Hid (W = (((w.alloc (Obj.cells #[Value.int IntKind.i64 z] 26)).alloc (Obj.cells cr 46)).alloc (Obj.cells #[Value.int IntKind.i64 0, Value.int IntKind.i64 (n : Int)] 120)).alloc (Obj.cells #[Value.int IntKind.i64 (x : Int), Value.int IntKind.i64 (y : Int)] 120)) := ⟨_, rfl⟩
  have HF := frame4 w (Obj.cells #[Value.int IntKind.i64 z] 26) (Obj.cells cr 46) (Obj.cells #[Value.int IntKind.i64 0, Value.int IntKind.i64 (n : Int)] 120) #[Value.int IntKind.i64 (x : Int), Value.int IntKind.i64 (y : Int)] 120 W0 HW0.out
  rw [← HW0.out]
  have HFH : Hid _ := HF
  clear HF HW0
  have HS : Hid (∀ W, Below W0.heap.size W0 W → W.cell? ⟨w.heap.size, 0, none⟩ = some (.int .i64 z) ∧ W.cell? ⟨w.heap.size + 2, 0, none⟩ = some (.int .i64 0) ∧ W.cell? ⟨w.heap.size + 2, 1, none⟩ = some (.int .i64 (n : Int)) ∧ W.cell? ⟨w.heap.size + 3, 0, none⟩ = some (.int .i64 (x : Int)) ∧ W.cell? ⟨w.heap.size + 3, 1, none⟩ = some (.int .i64 (y : Int))) := fun W hW =>
    ⟨bel_cell2 hW (Nat.le_refl _) (by rw [cell_of_row W0 _ 0 _ _ _ HFH.out.1]; rfl), bel_cell2 hW (Nat.le_refl _) (by rw [cell_of_row W0 _ 0 _ _ _ HFH.out.2.2.1]; rfl), bel_cell2 hW (Nat.le_refl _) (by rw [cell_of_row W0 _ 1 _ _ _ HFH.out.2.2.1]; rfl), bel_cell2 hW (Nat.le_refl _) (by rw [cell_of_row W0 _ 0 _ _ _ HFH.out.2.2.2.1]; rfl), bel_cell2 hW (Nat.le_refl _) (by rw [cell_of_row W0 _ 1 _ _ _ HFH.out.2.2.2.1]; rfl)⟩
  obtain ⟨q0, q1, q2, q3, q4⟩ := HS.out _ (Below.refl _ _)
  clear y0 y1 y1d y2 y2d y2n y3 y3w y4 y4d y4n y5 y4'
  go_wp2_with fail
  refine (HO.out _).mono ?_
  rintro e w1 ⟨v1, rfl, hs1, hb1⟩
  obtain ⟨aoS, cS, rfl, -⟩ := hs1.shape
  have HB1 : Hid (Below W0.heap.size W0 w1) := hb1
  clear q0 q1 q2 q3 q4 hs1 hb1
  have y3 : ((m : Int) == (sp.length : Int)) = false := by simp; omega
  clear hne
  go_wp2_with fail
  go_ret
  exact ⟨rfl, HFH.out.2.2.2.2.1.trans (HB1.out.mono (by rw [HFH.out.2.2.2.2.2]; omega))⟩
end Go.Proofs.YtecacjddggljgaaDoor.Sm
namespace Go.Proofs.YtecacjddggljgaaDoor.Sm
open Go.RowKit
theorem digC_at : ∀ (ds : List (List UInt8)) (k : Nat) (d : List UInt8) (j : Nat), (∀ e ∈ ds, e.length = 32) → ds[k]? = some d → j < 32 → (digC ds)[k * 32 + j]? = (cellsOf d)[j]?
  | [], k, d, j, _, h, _ => by simp at h
  | x :: xs, 0, d, j, hl, h, hj => by
    simp at h
    subst h
    have hx := hl x (by simp)
    rw [show digC (x :: xs) = cellsOf x ++ digC xs from rfl, List.getElem?_append_left (by rw [cellsOf_length, hx]; omega)]
    simp
  | x :: xs, k + 1, d, j, hl, h, hj => by
    have hx := hl x (by simp)
    rw [show digC (x :: xs) = cellsOf x ++ digC xs from rfl, List.getElem?_append_right (by rw [cellsOf_length, hx]; omega), cellsOf_length, hx, show (k + 1) * 32 + j - 32 = k * 32 + j by omega]
    exact digC_at xs k d j (fun e he => hl e (by simp [he])) (by simpa using h) hj
theorem digC_length : ∀ (ds : List (List UInt8)), (∀ e ∈ ds, e.length = 32) → (digC ds).length = ds.length * 32
  | [], _ => rfl
  | x :: xs, hl => by
    rw [show digC (x :: xs) = cellsOf x ++ digC xs from rfl, List.length_append, cellsOf_length, hl x (by simp), digC_length xs (fun e he => hl e (by simp [he])), List.length_cons]
    omega
theorem DgV.path {w : World} {base : Nat} {v : Value} {ds : List (List UInt8)} (h : DgV w base v ds) :
    ∃ ao c, v = .slice ao ds.length c ∧ ds.length ≤ c ∧ c ≤ 9223372036854775807 ∧ PathV w ao ds ∧ (0 < ds.length → ∃ g, ao = some ⟨g, 0, none⟩ ∧ base ≤ g ∧ ∀ k d, ds[k]? = some d → w.rangeAt g (k * 32) (cellsOf d)) := by
  obtain ⟨⟨hl, ⟨rfl, h0⟩ | ⟨g, cap, cur, rfl, hg, hh, hc, hm, hs, ht⟩⟩, -, hd⟩ := h
  · have : ds = [] := List.length_eq_zero_iff.1 h0
    subst this
    exact ⟨none, 0, rfl, Nat.le_refl _, by omega, ⟨hd, fun h => absurd h (by simp)⟩, fun h => absurd h (by simp)⟩
  · have hr : ∀ k d, ds[k]? = some d → w.rangeAt g (k * 32) (cellsOf d) := fun k d hk j v hv => by
      have hj : j < 32 := by
        have := (List.getElem?_eq_some_iff.1 hv).1
        rw [cellsOf_length, hd d (List.mem_of_getElem? hk)] at this
        exact this
      have hk' := (List.getElem?_eq_some_iff.1 hk).1
      rw [cell_of_row w g _ _ _ _ hh]
      have h1 : cur.toList[k * 32 + j]? = some v := by
        have h2 : (cur.toList.take (ds.length * 32))[k * 32 + j]? = some v := by rw [ht, digC_at ds k d j hd hk hj]; exact hv
        rw [List.getElem?_take] at h2
        split at h2
        · exact h2
        · cases h2
      simpa using h1
    unfold maxLen at hm
    exact ⟨some ⟨g, 0, none⟩, cap, rfl, hc, by omega, ⟨hd, fun _ => ⟨g, 0, rfl, fun k d hk => by rw [Nat.zero_add]; exact hr k d hk⟩⟩, fun _ => ⟨g, rfl, hg, hr⟩⟩
/-- Three leaves of a byte each. -/
def ls3 (s : Nat) (a b c : UInt8) : List LV := [⟨some ⟨s, 0, none⟩, 1, 1, [a]⟩, ⟨some ⟨s + 1, 0, none⟩, 1, 1, [b]⟩, ⟨some ⟨s + 1 + 1, 0, none⟩, 1, 1, [c]⟩]
theorem one_bytes {w : World} {g : Nat} {a : UInt8} {fr : Nat × Nat} (h : w.heap[g]? = some (.cells #[.int .u8 (a.toNat : Int)] 5 fr)) : Bytes w (some ⟨g, 0, none⟩) 1 [a] := block_bytes (bs := [a]) h
theorem leaves3 {W : World} {s : Nat} {a b c : UInt8} {f1 f2 f3 f4 : Nat × Nat} (h1 : W.heap[s]? = some (.cells #[.int .u8 (a.toNat : Int)] 5 f1)) (h2 : W.heap[s + 1]? = some (.cells #[.int .u8 (b.toNat : Int)] 5 f2)) (h3 : W.heap[s + 2]? = some (.cells #[.int .u8 (c.toNat : Int)] 5 f3))
    (h4 : W.heap[s + 3]? = some (.cells #[.slice (some ⟨s, 0, none⟩) 1 1, .slice (some ⟨s + 1, 0, none⟩) 1 1, .slice (some ⟨s + 1 + 1, 0, none⟩) 1 1] 27 f4)) : LeavesV W (some ⟨s + 3, 0, none⟩) 3 3 (ls3 s a b c) := by
  refine ⟨rfl, Nat.le_refl _, by omega, fun _ => ⟨s + 3, 0, rfl, fun i p hp => ?_⟩⟩
  rw [Nat.zero_add, cell_of_row W (s + 3) i _ _ _ h4]
  match i, hp with
  | 0, hp => cases hp; exact ⟨rfl, one_bytes h1, (by omega : 1 ≤ 140737488355000), fun h => by cases h⟩
  | 1, hp => cases hp; exact ⟨rfl, one_bytes h2, (by omega : 1 ≤ 140737488355000), fun h => by cases h⟩
  | 2, hp => cases hp; exact ⟨rfl, one_bytes h3, (by omega : 1 ≤ 140737488355000), fun h => by cases h⟩
  | _ + 3, hp => simp [ls3] at hp
theorem nil_leaves (w : World) : LeavesV w none 0 0 [] := ⟨rfl, Nat.le_refl _, by omega, fun h => absurd h (by omega)⟩
theorem eq_same (x : List UInt8) (hx : x.length = 32) (w : World) : (Op.equalIn 10000 46 (.agg (cellsOf x).toArray) (.agg (cellsOf x).toArray)).run Tryd.prog w = .ok true w := by
  rw [equalIn_dig x x hx hx]; simp
theorem eq_same2 (x : List UInt8) (hx : x.length = 32) (w : World) : (binOp .eql 46 (.agg (cellsOf x).toArray) (.agg (cellsOf x).toArray)).run Tryd.prog w = .ok (.bool true) w := by
  rw [eq_dig x x hx hx]; simp
end Go.Proofs.YtecacjddggljgaaDoor.Sm
