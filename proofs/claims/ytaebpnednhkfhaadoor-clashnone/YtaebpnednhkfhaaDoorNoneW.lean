/-
  The walk of marlstonelaw06.ClashNone.
-/
import Derived.Test.YtaebpnednhkfhaaDoorSmall6b
namespace Go.Proofs.YtaebpnednhkfhaaDoor
open Go.RowKit
theorem none_one (z : Int) (ls : List LV) (i : Nat) (p : LV) (hp : ls[i]? = some p) (h : ls.length ≤ 1000) : ofO z ls (i : Int) p (pathD z ls (i : Int)) = none := by
  have hi := (List.getElem?_eq_some_iff.1 hp).1
  cases hc : ckB z (rootD z (bytesL ls)) ls.length (i : Int) p.bs (pathD z ls (i : Int)) with
  | false => exact ofO_no z ls (i : Int) p _ hc
  | true =>
    have h32 : ∀ e ∈ pathD z ls (i : Int), e.length = 32 := fun e he => by
      unfold pathD at he
      split at he
      · obtain ⟨q, -, rfl⟩ := List.mem_map.1 he
        exact rootD_length _ _
      · cases he
    obtain ⟨j, hj, -, -, h3⟩ := ofO_sound z ls (i : Int) p _ h h32 hc
    have e : i = j := by omega
    subst e
    exact h3.2 ⟨(bsAt_some hp).symm, rfl⟩
theorem none_part (z : Int) (ls : List LV) (i k : Nat) (hik : i < k) (hk : k ≤ ls.length) (h : ls.length ≤ 1000) : ofR z ls (partL ls i k) (i : Int) (rangeD z ls (i : Int) (k : Int)) = none := by
  have hpl := partL_len ls i k hk
  cases hc : crB z (rootD z (bytesL ls)) ls.length (i : Int) (partL ls i k) (rangeD z ls (i : Int) (k : Int)) with
  | false => exact ofR_no z ls _ (i : Int) _ hc
  | true =>
    have h32 : ∀ e ∈ rangeD z ls (i : Int) (k : Int), e.length = 32 := fun e he => by
      unfold rangeD at he
      split at he
      · obtain ⟨q, -, rfl⟩ := List.mem_map.1 he
        exact rootD_length _ _
      · cases he
    obtain ⟨j, hj, -, -, -, -, h3⟩ := ofR_sound z ls (partL ls i k) (i : Int) _ h h32 hc
    have e : i = j := by omega
    subst e
    rw [hpl, show i + (k - i) = k by omega] at h3
    refine h3 (fun j hj => ?_) rfl
    unfold bsAt partL
    rw [bytesL_take, bytesL_drop, List.getD_eq_getElem?_getD, List.getElem?_take, if_pos hj, List.getElem?_drop, List.getD_eq_getElem?_getD]
theorem cut_same (ps : List PP) (ls : List LV) (h : bytesL ls = cutL ps 40 100) : cutL (ls.map fun p : LV => (⟨p.ao, p.n, p.c, p.bs⟩ : PP)) 40 100 = bytesL ls := by
  have hl : ls.length ≤ 40 := by
    have h2 := congrArg List.length h
    rw [bytesL_len, cutL, List.length_map, List.length_take] at h2
    omega
  unfold cutL
  rw [List.take_of_length_le (by rw [List.length_map]; exact hl), List.map_map]
  unfold bytesL
  apply List.map_congr_left
  intro p hp
  have h1 : p.bs ∈ bytesL ls := List.mem_map.2 ⟨p, hp, rfl⟩
  rw [h] at h1
  obtain ⟨q, -, h2⟩ := List.mem_map.1 h1
  show p.bs.take 100 = p.bs
  rw [← h2, List.take_take]
  rfl
theorem pieces_of {w : World} {ao : Option Addr} {n c : Nat} {ls : List LV} (h : LeavesV w ao n c ls) (hc : ∀ p ∈ ls, p.n ≤ p.c ∧ p.c ≤ 9223372036854775807) (b off : Nat) (ha : 0 < n → ao = some ⟨b, off, none⟩) : Pieces w b off (ls.map fun p : LV => (⟨p.ao, p.n, p.c, p.bs⟩ : PP)) := by
  intro i q hq
  rw [List.getElem?_map] at hq
  cases hp : ls[i]? with
  | none => rw [hp] at hq; cases hq
  | some p =>
    rw [hp] at hq
    cases hq
    have hi := (List.getElem?_eq_some_iff.1 hp).1
    obtain ⟨b', off', h1, h2⟩ := h.2.2.2 (by have := h.1; omega)
    rw [ha (by have := h.1; omega)] at h1
    cases h1
    obtain ⟨d1, d2, -, d4⟩ := h2 i p hp
    exact ⟨d1, d2, (hc p (List.mem_of_getElem? hp)).1, (hc p (List.mem_of_getElem? hp)).2, d4⟩
set_option maxRecDepth 100000 in
set_option maxHeartbeats 20000000 in
theorem none_walk (z : Int) (a0 : Option Addr) (n0 c0 : Nat) (b off : Nat) (ps : List PP) (f0 t0 : Int) (w : World) (hP : Pieces w b off ps) (hn : ps.length = n0) (ha : 0 < n0 → a0 = some ⟨b, off, none⟩) (hK : WW w 0 ks) (h0 : 0 < w.heap.size) (hz : -9223372036854775808 ≤ z ∧ z ≤ 9223372036854775807) :
    Calls Tryd.prog 19 #[.int .i64 z, .slice a0 n0 c0, .int .i64 f0, .int .i64 t0] w fun e w' => e = .returned (.bool true) ∧ Below w.heap.size w w' := by
  have HKW : Hid (WW w 0 ks ∧ 0 < w.heap.size) := ⟨hK, h0⟩
  have HSH : Hid (∀ W, Below w.heap.size w W → Calls Tryd.prog 46 #[] W fun e w' => e = .returned (.bool true) ∧ Below W.heap.size W w') := fun W hW => shown6_any W (hK.below hW h0) (Nat.lt_of_lt_of_le h0 hW.size)
  have HSM : Hid (∀ W, Below w.heap.size w W → Calls Tryd.prog 47 #[.slice a0 n0 c0] W fun e w' => ∃ ao' n' c', e = .returned (.slice ao' n' c') ∧ (∃ ls, LeavesV w' ao' n' c' ls ∧ bytesL ls = cutL ps 40 100 ∧ ∀ p ∈ ls, p.n ≤ p.c ∧ p.c ≤ 9223372036854775807) ∧ n' ≤ 40 ∧ Below W.heap.size W w') := fun W hW => small6b_any b off n0 c0 a0 ps W (hP.below hW (Nat.le_refl _)) hn ha
  have HZ : Hid (-9223372036854775808 ≤ z ∧ z ≤ 9223372036854775807) := hz
  clear hP hn ha hK h0 hz
  obtain ⟨r1, hbit1, hr1⟩ : ∃ r : Nat, bits .and .i64 f0 65535 = (r : Int) ∧ r ≤ 65535 := ⟨(f0 % 65536).toNat, by rw [and65535]; omega, by omega⟩
  obtain ⟨r2, hbit2, hr2⟩ : ∃ r : Nat, bits .and .i64 t0 65535 = (r : Int) ∧ r ≤ 65535 := ⟨(t0 % 65536).toNat, by rw [and65535]; omega, by omega⟩
  go_enter Tryd.func19, Tryd.ntmps19
  go_wp2_with fail
  refine (HSH.out _ (Below.refl w.heap.size w)).mono ?_
  rintro e w1 ⟨rfl, hb1⟩
  have HB1 : Hid (Below w.heap.size w w1) := (Below.refl w.heap.size w).trans (hb1.mono (Below.refl w.heap.size w).size)
  have HB01 : Hid (Below _ _ w1) := hb1
  clear hb1
  go_wp2_with fail
  refine (HSM.out _ HB1.out).mono ?_
  rintro e w2 ⟨ao, n, c, rfl, ⟨ls, hL, hE, hCP⟩, hn70, hb2⟩
  have HLV : Hid (LeavesV w2 ao n c ls) := hL
  have HEL : Hid (bytesL ls = cutL ps 40 100) := hE
  have HCP : Hid (∀ p ∈ ls, p.n ≤ p.c ∧ p.c ≤ 9223372036854775807) := hCP
  have HN70 : Hid (n ≤ 40) := hn70
  have HB2 : Hid (Below w.heap.size w w2) := HB1.out.trans (hb2.mono HB1.out.size)
  have HB02 : Hid (Below _ _ w2) := HB01.out.trans (hb2.mono HB01.out.size)
  have HKB : Hid (∀ W, Below w2.heap.size w2 W → WW W 0 ks ∧ 0 < W.heap.size) := fun W hW => by
    have h1 := HB2.out.trans (hW.mono HB2.out.size)
    exact ⟨HKW.out.1.below h1 HKW.out.2, Nat.lt_of_lt_of_le HKW.out.2 h1.size⟩
  clear hL hE hCP hn70 hb2 HB1 HSH HSM HB01
  obtain ⟨w3, HW3⟩ : ∃ W, Hid (w2.alloc (Obj.cells #[Value.int IntKind.i64 z] 30) = W) := ⟨_, rfl⟩
  have HB3 : Hid (Below w2.heap.size w2 w3) := by show Below _ _ _; rw [← HW3.out]; exact bel_alloc _ _
  have HN3 : Hid (w3.heap[w2.heap.size]? = some (.cells #[Value.int IntKind.i64 z] 30 (0, 0))) := by show _ = _; rw [← HW3.out]; exact heap_alloc_new _ _
  have HKB3 : Hid (∀ W, Below w3.heap.size w3 W → WW W 0 ks ∧ 0 < W.heap.size) := fun W hW => HKB.out W (HB3.out.trans (hW.mono HB3.out.size))
  have HLV3 : Hid (∀ W, Below w3.heap.size w3 W → LeavesV W ao n c ls) := fun W hW => (HLV.out.below HB3.out (Nat.le_refl _)).below hW (Nat.le_refl _)
  have HBW : Hid (∀ W, Below w3.heap.size w3 W → Below w.heap.size w W) := fun W hW => HB2.out.trans ((HB3.out.trans (hW.mono HB3.out.size)).mono HB2.out.size)
  have HNC : Hid (n ≤ c ∧ c ≤ 9223372036854775807) := ⟨HLV.out.2.1, HLV.out.2.2.1⟩
  have HCZ : Hid (∀ W, Below w3.heap.size w3 W → W.cell? ⟨w2.heap.size, 0, none⟩ = some (.int .i64 z)) := fun W hW => bel_cell2 hW (Nat.le_refl _) (by rw [cell_of_row w3 _ 0 _ _ _ HN3.out]; rfl)
  have HLN : Hid (ls.length = n) := HLV.out.1
  have HSM2 : Hid (∀ W, Below w3.heap.size w3 W → Calls Tryd.prog 47 #[.slice ao n c] W fun e w' => ∃ ao' n' c', e = .returned (.slice ao' n' c') ∧ CutV w' ao' n' c' (bytesL ls) ∧ n' ≤ 40 ∧ Below W.heap.size W w') := fun W hW => by
    have hv := HLV3.out W hW
    rcases Nat.eq_zero_or_pos n with h0 | h0
    · have h := small6_any 0 0 n c ao (ls.map fun p : LV => (⟨p.ao, p.n, p.c, p.bs⟩ : PP)) W (pieces_of hv HCP.out 0 0 (fun h => absurd h (by omega))) (by rw [List.length_map]; exact HLN.out) (fun h => absurd h (by omega))
      rw [cut_same ps ls HEL.out] at h; exact h
    · obtain ⟨b', off', hao, -⟩ := hv.2.2.2 h0
      have h := small6_any b' off' n c ao (ls.map fun p : LV => (⟨p.ao, p.n, p.c, p.bs⟩ : PP)) W (pieces_of hv HCP.out b' off' (fun _ => hao)) (by rw [List.length_map]; exact HLN.out) (fun _ => hao)
      rw [cut_same ps ls HEL.out] at h; exact h
  have hcz := HCZ.out _ (Below.refl _ _)
  have HSA : Hid (∀ W, Below w3.heap.size w3 W → W.cell? ⟨w2.heap.size, 0, none⟩ = some (.int .i64 z)) := HCZ
  go_upto_region 5 with fail
  rw [HW3.out]
  clear hcz
  refine wp_region_held_drew (S := fun W => W.cell? ⟨w2.heap.size, 0, none⟩ = some (.int .i64 z)) (by kernel_rfl) (HSA.out _ (Below.drew (Below.refl _ _))) (fun hS => ?_)
  refine wpAnyH_take (i := 0) (v := ?_) rfl (by kernel_rfl) (by kernel_rfl) (by kernel_rfl) (fun _ _ _ h => h) (Or.inl ⟨by rfl, ?_⟩) (by assumption) ?_
  rotate_left
  · (intro w hSw; (try dsimp only at hSw); go_simp; try with_reducible rfl)
  simp only [Act.put, List.getElem_toArray, List.getElem_cons_zero, List.setIfInBounds_toArray, List.set_cons_zero, List.set_cons_succ]
  refine wpAnyH_take (i := 1) (v := ?_) rfl (by kernel_rfl) (by kernel_rfl) (by kernel_rfl) (fun _ _ _ h => h) (Or.inl ⟨by rfl, ?_⟩) (by assumption) ?_
  rotate_left
  · (intro w hSw; (try dsimp only at hSw); go_simp; try with_reducible rfl)
  simp only [Act.put, List.getElem_toArray, List.getElem_cons_zero, List.getElem_cons_succ, List.setIfInBounds_toArray, List.set_cons_zero, List.set_cons_succ]
  refine wpAnyH_take (i := 2) (v := ?_) rfl (by kernel_rfl) (by kernel_rfl) (by kernel_rfl) (fun _ _ _ h => h) (Or.inl ⟨by rfl, ?_⟩) (by assumption) ?_
  rotate_left
  · (intro w hSw; (try dsimp only at hSw); go_simp; try with_reducible rfl)
  simp only [Act.put, List.getElem_toArray, List.getElem_cons_zero, List.getElem_cons_succ, List.setIfInBounds_toArray, List.set_cons_zero, List.set_cons_succ]
  refine wpAnyH_ready (rs := [3]) (by kernel_rfl) (by simp) ?_
  refine AllReadyH.cons rfl (fun K hK => ?_) AllReadyH.nil
  go_simp
  refine (HSM2.out _ (Below.drew (Below.refl _ _))).mono ?_
  rintro e w4 ⟨qo, qn, qc, rfl, ⟨qs, hL, hE⟩, hq40, hb4⟩
  have HB4 : Hid (Below w3.heap.size w3 w4) := (Below.drew (Below.refl _ _)).trans hb4
  have HQV : Hid (LeavesV w4 qo qn qc qs) := hL
  have HQE : Hid (bytesL qs = bytesL ls) := hE
  have HQ40 : Hid (qn ≤ 40) := hq40
  go_wp2_with fail
  refine hK.out _ _ (HSA.out _ HB4.out) (fun hHeld2 => ?_)
  clear hK K hb4 hL hE hq40 HSM2
  have HOL : Hid (Calls Tryd.prog 54 #[.agg #[.int .i64 z], .slice ao n c, .slice qo qn qc] w4 fun e w' => AnsR none e w' ∧ Below w4.heap.size w4 w') := by
    have h := ofLists_any z ao n c ls qo qn qc qs w4 (HLV3.out _ HB4.out) (by have := HN70.out; omega) HQV.out (by have := HQ40.out; omega) (HKB3.out _ HB4.out).1 (HKB3.out _ HB4.out).2 HZ.out
    rw [(lists_math z ls qs (by have := HLN.out; have := HN70.out; omega)).1 HQE.out.symm] at h; exact h
  refine wpAnyH_ready (rs := [4]) (by kernel_rfl) (by simp) ?_
  refine AllReadyH.cons rfl (fun K hK => ?_) AllReadyH.nil
  go_simp
  refine Calls.mono HOL.out ?_
  rintro e w5 ⟨⟨xa, xn, xc, ya, yn, yc, rfl, -, -⟩, hb5⟩
  have HB5 : Hid (Below w3.heap.size w3 w5) := HB4.out.trans (hb5.mono HB4.out.size)
  go_wp2_with fail
  refine hK.out _ _ (HSA.out _ HB5.out) (fun hHeld3 => ?_)
  clear hK K hb5 hHeld2 HOL
  refine wpAnyH_take (i := 5) (v := ?_) rfl (by kernel_rfl) (by kernel_rfl) (by kernel_rfl) (fun _ _ _ h => h) (Or.inl ⟨by rfl, ?_⟩) (by assumption) ?_
  rotate_left
  · (intro w hSw; (try dsimp only at hSw); go_simp; try with_reducible rfl)
  simp only [Act.put, List.getElem_toArray, List.getElem_cons_zero, List.getElem_cons_succ, List.setIfInBounds_toArray, List.set_cons_zero, List.set_cons_succ]
  refine wpAnyH_take (i := 6) (v := ?_) rfl (by kernel_rfl) (by kernel_rfl) (by kernel_rfl) (fun _ _ _ h => h) (Or.inl ⟨by rfl, ?_⟩) (by assumption) ?_
  rotate_left
  · (intro w hSw; (try dsimp only at hSw); go_simp; try with_reducible rfl)
  simp only [Act.put, List.getElem_toArray, List.getElem_cons_zero, List.getElem_cons_succ, List.setIfInBounds_toArray, List.set_cons_zero, List.set_cons_succ]
  refine wpAnyH_take (i := 7) (v := ?_) rfl (by kernel_rfl) (by kernel_rfl) (by kernel_rfl) (fun _ _ _ h => h) (Or.inl ⟨by rfl, ?_⟩) (by assumption) ?_
  rotate_left
  · (intro w hSw; (try dsimp only at hSw); go_simp; try with_reducible rfl)
  simp only [Act.put, List.getElem_toArray, List.getElem_cons_zero, List.getElem_cons_succ, List.setIfInBounds_toArray, List.set_cons_zero, List.set_cons_succ]
  refine wpAnyH_take (i := 8) (v := ?_) rfl (by kernel_rfl) (by kernel_rfl) (by kernel_rfl) (fun _ _ _ h => h) (Or.inl ⟨by rfl, ?_⟩) (by assumption) ?_
  rotate_left
  · (intro w hSw; (try dsimp only at hSw); go_simp; try with_reducible rfl)
  simp only [Act.put, List.getElem_toArray, List.getElem_cons_zero, List.getElem_cons_succ, List.setIfInBounds_toArray, List.set_cons_zero, List.set_cons_succ]
  refine wpAnyH_take (i := 9) (v := ?_) rfl (by kernel_rfl) (by kernel_rfl) (by kernel_rfl) (fun _ _ _ h => h) (Or.inl ⟨by rfl, ?_⟩) (by assumption) ?_
  rotate_left
  · (intro w hSw; (try dsimp only at hSw); go_simp; try with_reducible rfl)
  simp only [Act.put, List.getElem_toArray, List.getElem_cons_zero, List.getElem_cons_succ, List.setIfInBounds_toArray, List.set_cons_zero, List.set_cons_succ]
  refine wpAnyH_take (i := 10) (v := ?_) rfl (by kernel_rfl) (by kernel_rfl) (by kernel_rfl) (fun _ _ _ h => h) (Or.inl ⟨by rfl, ?_⟩) (by assumption) ?_
  rotate_left
  · (intro w hSw; (try dsimp only at hSw); go_simp; try with_reducible rfl)
  simp only [Act.put, List.getElem_toArray, List.getElem_cons_zero, List.getElem_cons_succ, List.setIfInBounds_toArray, List.set_cons_zero, List.set_cons_succ]
  refine wpAnyH_take (i := 11) (v := ?_) rfl (by kernel_rfl) (by kernel_rfl) (by kernel_rfl) (fun _ _ _ h => h) (Or.inl ⟨by rfl, ?_⟩) (by assumption) ?_
  rotate_left
  · (intro w hSw; (try dsimp only at hSw); go_simp; try with_reducible rfl)
  simp only [Act.put, List.getElem_toArray, List.getElem_cons_zero, List.getElem_cons_succ, List.setIfInBounds_toArray, List.set_cons_zero, List.set_cons_succ]
  refine wpAnyH_done (by kernel_rfl) ?_ _
  clear hS hHeld3 HQV HQE HQ40
  have HW5 : Hid (∀ W, Below w5.heap.size w5 W → Below w3.heap.size w3 W) := fun W hW => HB5.out.trans (hW.mono HB5.out.size)
  have HS5 : Hid (∀ W, Below w5.heap.size w5 W → W.cell? ⟨w2.heap.size, 0, none⟩ = some (.int .i64 z)) := fun W hW => HCZ.out W (HW5.out W hW)
  by_cases hn0 : n = 0
  · have hz1 : ((n : Int) == 0) = true := by simp; omega
    have hz2 : (n : Int) = 0 := by omega
    clear hn0
    go_wp2_with fail
    go_ret
    exact ⟨rfl, HBW.out _ (HW5.out _ (Below.refl _ _))⟩
  have HN0 : Hid (0 < n) := by show 0 < n; omega
  have hz1 : ((n : Int) == 0) = false := by simp; omega
  have hnz0 : ¬ (n : Int) = 0 := by omega
  have hnz2 : ¬ n = 0 := hn0
  obtain ⟨b1, o1, hao, -⟩ := HLV.out.2.2.2 (by omega)
  subst hao
  clear hn0
  go_wp2_with fail
  go_loopw [15, 16, 17, 18, 19, 20] (fun s15 _ _ _ _ _ wr => ∃ (i : Nat), s15 = .int .i64 i ∧ i ≤ n ∧ Hid (Below w5.heap.size w5 wr)) (fun x _ _ _ _ _ _ => n - (intOf x).toNat)
  case atStart => exact ⟨0, rfl, Nat.zero_le _, Below.refl _ _⟩
  case round =>
    obtain ⟨i, rfl, hin, HBR⟩ := hrel
    by_cases hi : i < n
    case pos =>
      have hiz : (i : Int) < (n : Int) := by omega
      have hinc : wrap64 ((i : Int) + 1) = ((i + 1 : Nat) : Int) := winc (n := n) (by omega) (by have := HN70.out; omega)
      obtain ⟨⟨pao, pn, pc, pbs⟩, HPF⟩ : ∃ p, Hid (ls[i]? = some p) := ⟨_, List.getElem?_eq_getElem (by have := HLN.out; omega)⟩
      obtain ⟨P, HP⟩ : ∃ P, Hid (pathD z ls (i : Int) = P) := ⟨_, rfl⟩
      have HPE : Hid (pathE n (i : Int) = 0) := if_pos (by omega)
      have HPA : Hid (∀ W, Below w5.heap.size w5 W → Calls Tryd.prog 33 #[.agg #[.int .i64 z], .slice (some ⟨b1, o1, none⟩) n c, .int .i64 (i : Int)] W fun e w' => ∃ v, e = .returned (.tuple #[v, .int .i64 0]) ∧ DgV w' W.heap.size v P ∧ Below W.heap.size W w') := fun W hW => by
        have h := path_any z _ n c ls (i : Int) W (HLV3.out W (HW5.out W hW)) (by have := HN70.out; omega) (HKB3.out W (HW5.out W hW)).1 (HKB3.out W (HW5.out W hW)).2 HZ.out
        rw [HPE.out, HP.out] at h; exact h
      have hcz := HS5.out _ HBR.out
      clear hz1 hnz0 hnz2
      go_wp2_with fail
      clear hcz
      refine (HPA.out _ HBR.out).mono ?_
      rintro e w7 ⟨v, rfl, hd7, hb7⟩
      have HB7 : Hid (Below w5.heap.size w5 w7) := HBR.out.trans (hb7.mono HBR.out.size)
      obtain ⟨aop, cp, rfl, hc1, hc2, hPV, -⟩ := hd7.path
      have HPV : Hid (∀ W, Below w7.heap.size w7 W → PathV W aop P) := fun W hW => hPV.below hW (Nat.le_refl _)
      have HPC : Hid (P.length ≤ cp ∧ cp ≤ 9223372036854775807) := ⟨hc1, hc2⟩
      obtain ⟨k, HK⟩ : ∃ k : Nat, Hid (P.length = k) := ⟨_, rfl⟩
      simp only [HK.out]
      clear hd7 hb7 hPV hc1 hc2 HPA
      have HS7 : Hid (∀ W, Below w7.heap.size w7 W → W.cell? ⟨w2.heap.size, 0, none⟩ = some (.int .i64 z) ∧ W.cell? ⟨b1, o1 + i, none⟩ = some (.slice pao pn pc)) := fun W hW => by
        have hW5 : Below w5.heap.size w5 W := HB7.out.trans (hW.mono HB7.out.size)
        obtain ⟨b2, f2, e2, d1, -⟩ := (HLV3.out _ (HW5.out _ hW5)).at i _ HPF.out
        cases e2
        exact ⟨HS5.out _ hW5, d1⟩
      have HOF : Hid (∀ W, Below w7.heap.size w7 W → Calls Tryd.prog 48 #[.agg #[.int .i64 z], .slice (some ⟨b1, o1, none⟩) n c, .int .i64 (i : Int), .slice pao pn pc, .slice aop k cp] W fun e w' => AnsR none e w' ∧ Below W.heap.size W w') := fun W hW => by
        have hW5 : Below w5.heap.size w5 W := HB7.out.trans (hW.mono HB7.out.size)
        obtain ⟨bx, fx, ex, hAt⟩ := (HLV3.out _ (HW5.out _ hW5)).2.2.2 HN0.out
        obtain ⟨-, q2, q3, q4⟩ := hAt i _ HPF.out
        have h := ofOne_any z _ n c ls (i : Int) ⟨pao, pn, pc, pbs⟩ aop k cp P W (HLV3.out W (HW5.out W hW5)) (by have := HN70.out; omega) q2 q3 q4 (HPV.out W hW) HK.out (by have := HPC.out; have := HK.out; omega) HPC.out.2 (HKB3.out W (HW5.out W hW5)).1 (HKB3.out W (HW5.out W hW5)).2 HZ.out
        rw [← HP.out, none_one z ls i _ HPF.out (by have := HLN.out; have := HN70.out; omega)] at h; exact h
      go_upto_region 12 with fail
      refine wp_region_held_drew (S := fun W => W.cell? ⟨w2.heap.size, 0, none⟩ = some (.int .i64 z) ∧ W.cell? ⟨b1, o1 + i, none⟩ = some (.slice pao pn pc)) (by kernel_rfl) (HS7.out _ (Below.drew (Below.refl _ _))) (fun hS => ?_)
      refine wpAnyH_take (i := 0) (v := ?_) rfl (by kernel_rfl) (by kernel_rfl) (by kernel_rfl) (fun _ _ _ h => h) (Or.inl ⟨by rfl, ?_⟩) (by assumption) ?_
      rotate_left
      · (intro w hSw; (try dsimp only at hSw); go_simp; try with_reducible rfl)
      simp only [Act.put, List.getElem_toArray, List.getElem_cons_zero, List.setIfInBounds_toArray, List.set_cons_zero, List.set_cons_succ]
      refine wpAnyH_take (i := 1) (v := ?_) rfl (by kernel_rfl) (by kernel_rfl) (by kernel_rfl) (fun _ _ _ h => h) (Or.inl ⟨by rfl, ?_⟩) (by assumption) ?_
      rotate_left
      · (intro w hSw; (try dsimp only at hSw); go_simp; try with_reducible rfl)
      simp only [Act.put, List.getElem_toArray, List.getElem_cons_zero, List.getElem_cons_succ, List.setIfInBounds_toArray, List.set_cons_zero, List.set_cons_succ]
      refine wpAnyH_take (i := 2) (v := ?_) rfl (by kernel_rfl) (by kernel_rfl) (by kernel_rfl) (fun _ _ _ h => h) (Or.inl ⟨by rfl, ?_⟩) (by assumption) ?_
      rotate_left
      · (intro w hSw; (try dsimp only at hSw); go_simp; try with_reducible rfl)
      simp only [Act.put, List.getElem_toArray, List.getElem_cons_zero, List.getElem_cons_succ, List.setIfInBounds_toArray, List.set_cons_zero, List.set_cons_succ]
      refine wpAnyH_take (i := 3) (v := ?_) rfl (by kernel_rfl) (by kernel_rfl) (by kernel_rfl) (fun _ _ _ h => h) (Or.inl ⟨by rfl, ?_⟩) (by assumption) ?_
      rotate_left
      · (intro w hSw; (try dsimp only at hSw); go_simp; try with_reducible rfl)
      simp only [Act.put, List.getElem_toArray, List.getElem_cons_zero, List.getElem_cons_succ, List.setIfInBounds_toArray, List.set_cons_zero, List.set_cons_succ]
      refine wpAnyH_take (i := 4) (v := ?_) rfl (by kernel_rfl) (by kernel_rfl) (by kernel_rfl) (fun _ _ _ h => h) (Or.inl ⟨by rfl, ?_⟩) (by assumption) ?_
      rotate_left
      · (intro w hSw; (try dsimp only at hSw); go_simp; try with_reducible rfl)
      simp only [Act.put, List.getElem_toArray, List.getElem_cons_zero, List.getElem_cons_succ, List.setIfInBounds_toArray, List.set_cons_zero, List.set_cons_succ]
      refine wpAnyH_take (i := 5) (v := ?_) rfl (by kernel_rfl) (by kernel_rfl) (by kernel_rfl) (fun _ _ _ h => h) (Or.inl ⟨by rfl, ?_⟩) (by assumption) ?_
      rotate_left
      · (intro w hSw; (try dsimp only at hSw); go_simp; try with_reducible rfl)
      simp only [Act.put, List.getElem_toArray, List.getElem_cons_zero, List.getElem_cons_succ, List.setIfInBounds_toArray, List.set_cons_zero, List.set_cons_succ]
      refine wpAnyH_take (i := 6) (v := ?_) rfl (by kernel_rfl) (by kernel_rfl) (by kernel_rfl) (fun _ _ _ h => h) (Or.inl ⟨by rfl, ?_⟩) (by assumption) ?_
      rotate_left
      · (intro w hSw; (try dsimp only at hSw); go_simp; try with_reducible rfl)
      simp only [Act.put, List.getElem_toArray, List.getElem_cons_zero, List.getElem_cons_succ, List.setIfInBounds_toArray, List.set_cons_zero, List.set_cons_succ]
      refine wpAnyH_take (i := 7) (v := ?_) rfl (by kernel_rfl) (by kernel_rfl) (by kernel_rfl) (fun _ _ _ h => h) (Or.inl ⟨by rfl, ?_⟩) (by assumption) ?_
      rotate_left
      · (intro w hSw; (try dsimp only at hSw); go_simp; try with_reducible rfl)
      simp only [Act.put, List.getElem_toArray, List.getElem_cons_zero, List.getElem_cons_succ, List.setIfInBounds_toArray, List.set_cons_zero, List.set_cons_succ]
      refine wpAnyH_ready (rs := [8]) (by kernel_rfl) (by simp) ?_
      refine AllReadyH.cons rfl (fun K hK => ?_) AllReadyH.nil
      go_simp
      refine (HOF.out _ (Below.drew (Below.refl _ _))).mono ?_
      rintro e w8 ⟨⟨xa2, xn2, xc2, ya2, yn2, yc2, rfl, -, -⟩, hb8⟩
      have HB8 : Hid (Below w7.heap.size w7 w8) := (Below.drew (Below.refl _ _)).trans hb8
      go_wp2_with fail
      refine hK.out _ _ (HS7.out _ HB8.out) (fun hHeld3 => ?_)
      clear hK K hb8 HOF
      refine wpAnyH_take (i := 9) (v := ?_) rfl (by kernel_rfl) (by kernel_rfl) (by kernel_rfl) (fun _ _ _ h => h) (Or.inl ⟨by rfl, ?_⟩) (by assumption) ?_
      rotate_left
      · (intro w hSw; (try dsimp only at hSw); go_simp; try with_reducible rfl)
      simp only [Act.put, List.getElem_toArray, List.getElem_cons_zero, List.getElem_cons_succ, List.setIfInBounds_toArray, List.set_cons_zero, List.set_cons_succ]
      refine wpAnyH_take (i := 10) (v := ?_) rfl (by kernel_rfl) (by kernel_rfl) (by kernel_rfl) (fun _ _ _ h => h) (Or.inl ⟨by rfl, ?_⟩) (by assumption) ?_
      rotate_left
      · (intro w hSw; (try dsimp only at hSw); go_simp; try with_reducible rfl)
      simp only [Act.put, List.getElem_toArray, List.getElem_cons_zero, List.getElem_cons_succ, List.setIfInBounds_toArray, List.set_cons_zero, List.set_cons_succ]
      refine wpAnyH_take (i := 11) (v := ?_) rfl (by kernel_rfl) (by kernel_rfl) (by kernel_rfl) (fun _ _ _ h => h) (Or.inl ⟨by rfl, ?_⟩) (by assumption) ?_
      rotate_left
      · (intro w hSw; (try dsimp only at hSw); go_simp; try with_reducible rfl)
      simp only [Act.put, List.getElem_toArray, List.getElem_cons_zero, List.getElem_cons_succ, List.setIfInBounds_toArray, List.set_cons_zero, List.set_cons_succ]
      refine wpAnyH_take (i := 12) (v := ?_) rfl (by kernel_rfl) (by kernel_rfl) (by kernel_rfl) (fun _ _ _ h => h) (Or.inl ⟨by rfl, ?_⟩) (by assumption) ?_
      rotate_left
      · (intro w hSw; (try dsimp only at hSw); go_simp; try with_reducible rfl)
      simp only [Act.put, List.getElem_toArray, List.getElem_cons_zero, List.getElem_cons_succ, List.setIfInBounds_toArray, List.set_cons_zero, List.set_cons_succ]
      refine wpAnyH_take (i := 13) (v := ?_) rfl (by kernel_rfl) (by kernel_rfl) (by kernel_rfl) (fun _ _ _ h => h) (Or.inl ⟨by rfl, ?_⟩) (by assumption) ?_
      rotate_left
      · (intro w hSw; (try dsimp only at hSw); go_simp; try with_reducible rfl)
      simp only [Act.put, List.getElem_toArray, List.getElem_cons_zero, List.getElem_cons_succ, List.setIfInBounds_toArray, List.set_cons_zero, List.set_cons_succ]
      refine wpAnyH_take (i := 14) (v := ?_) rfl (by kernel_rfl) (by kernel_rfl) (by kernel_rfl) (fun _ _ _ h => h) (Or.inl ⟨by rfl, ?_⟩) (by assumption) ?_
      rotate_left
      · (intro w hSw; (try dsimp only at hSw); go_simp; try with_reducible rfl)
      simp only [Act.put, List.getElem_toArray, List.getElem_cons_zero, List.getElem_cons_succ, List.setIfInBounds_toArray, List.set_cons_zero, List.set_cons_succ]
      refine wpAnyH_take (i := 15) (v := ?_) rfl (by kernel_rfl) (by kernel_rfl) (by kernel_rfl) (fun _ _ _ h => h) (Or.inl ⟨by rfl, ?_⟩) (by assumption) ?_
      rotate_left
      · (intro w hSw; (try dsimp only at hSw); go_simp; try with_reducible rfl)
      simp only [Act.put, List.getElem_toArray, List.getElem_cons_zero, List.getElem_cons_succ, List.setIfInBounds_toArray, List.set_cons_zero, List.set_cons_succ]
      refine wpAnyH_done (by kernel_rfl) ?_ _
      clear hS hHeld3
      go_wp2_with fail
      refine ⟨⟨i + 1, by rw [hinc], by omega, HB7.out.trans (HB8.out.mono HB7.out.size)⟩, by rw [hinc]; simp [intOf]; omega⟩
    case neg =>
      have hiz : ¬ (i : Int) < (n : Int) := by omega
      clear hi hin
      obtain ⟨i', HID⟩ : ∃ i : Nat, Hid (r1 % n = i) := ⟨_, rfl⟩
      have HIN : Hid (i' < n) := by show _ < _; rw [← HID.out]; exact Nat.mod_lt _ HN0.out
      have hrem1 : (r1 : Int).tmod (n : Int) = (i' : Int) := by rw [Int.tmod_eq_emod_of_nonneg (by omega), ← HID.out]; rfl
      obtain ⟨m, HMD⟩ : ∃ m : Nat, Hid (n - i' = m) := ⟨_, rfl⟩
      obtain ⟨t, HTD⟩ : ∃ t : Nat, Hid (r2 % m = t) := ⟨_, rfl⟩
      have HTN : Hid (i' + 1 + t ≤ n) := by
        have h1 := Nat.mod_lt r2 (show 0 < m by have := HIN.out; have := HMD.out; omega)
        have h2 := HTD.out
        show _ ≤ _
        have := HIN.out
        have := HMD.out
        omega
      have hrem2 : (r2 : Int).tmod (m : Int) = (t : Int) := by rw [Int.tmod_eq_emod_of_nonneg (by omega), ← HTD.out]; rfl
      obtain ⟨i1, HI1⟩ : ∃ m : Nat, Hid (i' + 1 = m) := ⟨_, rfl⟩
      obtain ⟨k, HKD⟩ : ∃ m : Nat, Hid (i1 + t = m) := ⟨_, rfl⟩
      have HIK : Hid (i' < k ∧ k ≤ n ∧ n ≤ 40 ∧ n ≤ c) := by
        have h1 := HI1.out
        have h2 := HKD.out
        have h3 := HTN.out
        have h4 := HN70.out
        have h5 := HNC.out
        show _ ∧ _ ∧ _ ∧ _
        omega
      have hmz0 : ¬ (m : Int) = 0 := by have := HMD.out; have := HIN.out; omega
      have hmz2 : ¬ m = 0 := by have := HMD.out; have := HIN.out; omega
      have hw1 : wrap64 ((n : Int) - (i' : Int)) = (m : Int) := by rw [← HMD.out]; exact wsub (Nat.le_of_lt HIN.out) (Nat.le_trans HN70.out (by decide))
      have hw2 : wrap64 ((i' : Int) + 1) = (i1 : Int) := by rw [← HI1.out]; exact winc HIN.out (Nat.le_trans HN70.out (by decide))
      have hw3 : wrap64 ((i1 : Int) + (t : Int)) = (k : Int) := by rw [← HKD.out]; exact wadd (n := k) (Nat.le_of_eq HKD.out) (Nat.le_trans HIK.out.2.1 (Nat.le_trans HN70.out (by decide)))
      obtain ⟨R, HR⟩ : ∃ P, Hid (rangeD z ls (i' : Int) (k : Int) = P) := ⟨_, rfl⟩
      have HRE : Hid (rangeE n (i' : Int) (k : Int) = 0) := if_pos (by have := HIK.out; omega)
      have HRA : Hid (∀ W, Below w5.heap.size w5 W → Calls Tryd.prog 35 #[.agg #[.int .i64 z], .slice (some ⟨b1, o1, none⟩) n c, .int .i64 (i' : Int), .int .i64 (k : Int)] W fun e w' => ∃ v, e = .returned (.tuple #[v, .int .i64 0]) ∧ DgV w' W.heap.size v R ∧ Below W.heap.size W w') := fun W hW => by
        have h := range_any z _ n c ls (i' : Int) (k : Int) W (HLV3.out W (HW5.out W hW)) (by have := HN70.out; omega) (HKB3.out W (HW5.out W hW)).1 (HKB3.out W (HW5.out W hW)).2 HZ.out
        rw [HRE.out, HR.out] at h; exact h
      have hcz := HS5.out _ HBR.out
      go_wp2_with fail
      (try simp only [hw3])
      clear hcz hw1 hw2 hw3 hrem1 hrem2 hmz0 hmz2 hiz
      refine (HRA.out _ HBR.out).mono ?_
      rintro e w7 ⟨v, rfl, hd7, hb7⟩
      have HB7 : Hid (Below w5.heap.size w5 w7) := HBR.out.trans (hb7.mono HBR.out.size)
      obtain ⟨aop, cp, rfl, hc1, hc2, hPV, -⟩ := hd7.path
      have HPV : Hid (∀ W, Below w7.heap.size w7 W → PathV W aop R) := fun W hW => hPV.below hW (Nat.le_refl _)
      have HPC : Hid (R.length ≤ cp) := hc1
      obtain ⟨q, HQ⟩ : ∃ k : Nat, Hid (R.length = k) := ⟨_, rfl⟩
      simp only [HQ.out]
      clear hd7 hb7 hPV hc1 hc2 HRA
      have hx2 : (i' : Int) ≤ (k : Int) := by have := HIK.out; omega
      have hx3 : (k : Int) ≤ (c : Int) := by have := HIK.out; omega
      have hx4 : ¬ c = i' := by have := HIK.out; omega
      have HS7 : Hid (∀ W, Below w7.heap.size w7 W → W.cell? ⟨w2.heap.size, 0, none⟩ = some (.int .i64 z)) := fun W hW => HS5.out _ (HB7.out.trans (hW.mono HB7.out.size))
      have HOF : Hid (∀ W, Below w7.heap.size w7 W → Calls Tryd.prog 52 #[.agg #[.int .i64 z], .slice (some ⟨b1, o1, none⟩) n c, .int .i64 (i' : Int), .slice (some ⟨b1, o1 + i', none⟩) (k - i') (c - i'), .slice aop q cp] W fun e w' => AnsR none e w' ∧ Below W.heap.size W w') := fun W hW => by
        have hW5 : Below w5.heap.size w5 W := HB7.out.trans (hW.mono HB7.out.size)
        have hv := HLV3.out W (HW5.out W hW5)
        have hk := HIK.out
        have h := ofRange_any z _ n c ls (i' : Int) _ _ _ (partL ls i' k) aop q cp R W hv (by omega) (hv.part i' k (by omega) (by omega)) (by omega) (HPV.out W hW) HQ.out (by have := HPC.out; have := HQ.out; omega) (HKB3.out W (HW5.out W hW5)).1 (HKB3.out W (HW5.out W hW5)).2 HZ.out
        rw [← HR.out, none_part z ls i' k (by omega) (by have := HLN.out; omega) (by have := HLN.out; omega)] at h; exact h
      go_upto_region 18 with fail
      refine wp_region_held_drew (S := fun W => W.cell? ⟨w2.heap.size, 0, none⟩ = some (.int .i64 z)) (by kernel_rfl) (HS7.out _ (Below.drew (Below.refl _ _))) (fun hS => ?_)
      refine wpAnyH_take (i := 0) (v := ?_) rfl (by kernel_rfl) (by kernel_rfl) (by kernel_rfl) (fun _ _ _ h => h) (Or.inl ⟨by rfl, ?_⟩) (by assumption) ?_
      rotate_left
      · (intro w hSw; (try dsimp only at hSw); go_simp; try with_reducible rfl)
      simp only [Act.put, List.getElem_toArray, List.getElem_cons_zero, List.setIfInBounds_toArray, List.set_cons_zero, List.set_cons_succ]
      refine wpAnyH_take (i := 1) (v := ?_) rfl (by kernel_rfl) (by kernel_rfl) (by kernel_rfl) (fun _ _ _ h => h) (Or.inl ⟨by rfl, ?_⟩) (by assumption) ?_
      rotate_left
      · (intro w hSw; (try dsimp only at hSw); go_simp; try with_reducible rfl)
      simp only [Act.put, List.getElem_toArray, List.getElem_cons_zero, List.getElem_cons_succ, List.setIfInBounds_toArray, List.set_cons_zero, List.set_cons_succ]
      refine wpAnyH_take (i := 2) (v := ?_) rfl (by kernel_rfl) (by kernel_rfl) (by kernel_rfl) (fun _ _ _ h => h) (Or.inl ⟨by rfl, ?_⟩) (by assumption) ?_
      rotate_left
      · (intro w hSw; (try dsimp only at hSw); go_simp; try with_reducible rfl)
      simp only [Act.put, List.getElem_toArray, List.getElem_cons_zero, List.getElem_cons_succ, List.setIfInBounds_toArray, List.set_cons_zero, List.set_cons_succ]
      refine wpAnyH_take (i := 3) (v := ?_) rfl (by kernel_rfl) (by kernel_rfl) (by kernel_rfl) (fun _ _ _ h => h) (Or.inl ⟨by rfl, ?_⟩) (by assumption) ?_
      rotate_left
      · (intro w hSw; (try dsimp only at hSw); go_simp; try with_reducible rfl)
      simp only [Act.put, List.getElem_toArray, List.getElem_cons_zero, List.getElem_cons_succ, List.setIfInBounds_toArray, List.set_cons_zero, List.set_cons_succ]
      refine wpAnyH_take (i := 4) (v := ?_) rfl (by kernel_rfl) (by kernel_rfl) (by kernel_rfl) (fun _ _ _ h => h) (Or.inl ⟨by rfl, ?_⟩) (by assumption) ?_
      rotate_left
      · (intro w hSw; (try dsimp only at hSw); go_simp; try with_reducible rfl)
      simp only [Act.put, List.getElem_toArray, List.getElem_cons_zero, List.getElem_cons_succ, List.setIfInBounds_toArray, List.set_cons_zero, List.set_cons_succ]
      refine wpAnyH_take (i := 5) (v := ?_) rfl (by kernel_rfl) (by kernel_rfl) (by kernel_rfl) (fun _ _ _ h => h) (Or.inl ⟨by rfl, ?_⟩) (by assumption) ?_
      rotate_left
      · (intro w hSw; (try dsimp only at hSw); go_simp; try with_reducible rfl)
      simp only [Act.put, List.getElem_toArray, List.getElem_cons_zero, List.getElem_cons_succ, List.setIfInBounds_toArray, List.set_cons_zero, List.set_cons_succ]
      refine wpAnyH_take (i := 6) (v := ?_) rfl (by kernel_rfl) (by kernel_rfl) (by kernel_rfl) (fun _ _ _ h => h) (Or.inl ⟨by rfl, ?_⟩) (by assumption) ?_
      rotate_left
      · (intro w hSw; (try dsimp only at hSw); go_simp; try with_reducible rfl)
      simp only [Act.put, List.getElem_toArray, List.getElem_cons_zero, List.getElem_cons_succ, List.setIfInBounds_toArray, List.set_cons_zero, List.set_cons_succ]
      refine wpAnyH_take (i := 7) (v := ?_) rfl (by kernel_rfl) (by kernel_rfl) (by kernel_rfl) (fun _ _ _ h => h) (Or.inl ⟨by rfl, ?_⟩) (by assumption) ?_
      rotate_left
      · (intro w hSw; (try dsimp only at hSw); go_simp; try with_reducible rfl)
      simp only [Act.put, List.getElem_toArray, List.getElem_cons_zero, List.getElem_cons_succ, List.setIfInBounds_toArray, List.set_cons_zero, List.set_cons_succ]
      refine wpAnyH_ready (rs := [8]) (by kernel_rfl) (by simp) ?_
      refine AllReadyH.cons rfl (fun K hK => ?_) AllReadyH.nil
      go_simp
      refine (HOF.out _ (Below.drew (Below.refl _ _))).mono ?_
      rintro e w8 ⟨⟨xa2, xn2, xc2, ya2, yn2, yc2, rfl, -, -⟩, hb8⟩
      have HB8 : Hid (Below w7.heap.size w7 w8) := (Below.drew (Below.refl _ _)).trans hb8
      go_wp2_with fail
      refine hK.out _ _ (HS7.out _ HB8.out) (fun hHeld3 => ?_)
      clear hK K hb8 HOF
      refine wpAnyH_take (i := 9) (v := ?_) rfl (by kernel_rfl) (by kernel_rfl) (by kernel_rfl) (fun _ _ _ h => h) (Or.inl ⟨by rfl, ?_⟩) (by assumption) ?_
      rotate_left
      · (intro w hSw; (try dsimp only at hSw); go_simp; try with_reducible rfl)
      simp only [Act.put, List.getElem_toArray, List.getElem_cons_zero, List.getElem_cons_succ, List.setIfInBounds_toArray, List.set_cons_zero, List.set_cons_succ]
      refine wpAnyH_take (i := 10) (v := ?_) rfl (by kernel_rfl) (by kernel_rfl) (by kernel_rfl) (fun _ _ _ h => h) (Or.inl ⟨by rfl, ?_⟩) (by assumption) ?_
      rotate_left
      · (intro w hSw; (try dsimp only at hSw); go_simp; try with_reducible rfl)
      simp only [Act.put, List.getElem_toArray, List.getElem_cons_zero, List.getElem_cons_succ, List.setIfInBounds_toArray, List.set_cons_zero, List.set_cons_succ]
      refine wpAnyH_take (i := 11) (v := ?_) rfl (by kernel_rfl) (by kernel_rfl) (by kernel_rfl) (fun _ _ _ h => h) (Or.inl ⟨by rfl, ?_⟩) (by assumption) ?_
      rotate_left
      · (intro w hSw; (try dsimp only at hSw); go_simp; try with_reducible rfl)
      simp only [Act.put, List.getElem_toArray, List.getElem_cons_zero, List.getElem_cons_succ, List.setIfInBounds_toArray, List.set_cons_zero, List.set_cons_succ]
      refine wpAnyH_take (i := 12) (v := ?_) rfl (by kernel_rfl) (by kernel_rfl) (by kernel_rfl) (fun _ _ _ h => h) (Or.inl ⟨by rfl, ?_⟩) (by assumption) ?_
      rotate_left
      · (intro w hSw; (try dsimp only at hSw); go_simp; try with_reducible rfl)
      simp only [Act.put, List.getElem_toArray, List.getElem_cons_zero, List.getElem_cons_succ, List.setIfInBounds_toArray, List.set_cons_zero, List.set_cons_succ]
      refine wpAnyH_take (i := 13) (v := ?_) rfl (by kernel_rfl) (by kernel_rfl) (by kernel_rfl) (fun _ _ _ h => h) (Or.inl ⟨by rfl, ?_⟩) (by assumption) ?_
      rotate_left
      · (intro w hSw; (try dsimp only at hSw); go_simp; try with_reducible rfl)
      simp only [Act.put, List.getElem_toArray, List.getElem_cons_zero, List.getElem_cons_succ, List.setIfInBounds_toArray, List.set_cons_zero, List.set_cons_succ]
      refine wpAnyH_take (i := 14) (v := ?_) rfl (by kernel_rfl) (by kernel_rfl) (by kernel_rfl) (fun _ _ _ h => h) (Or.inl ⟨by rfl, ?_⟩) (by assumption) ?_
      rotate_left
      · (intro w hSw; (try dsimp only at hSw); go_simp; try with_reducible rfl)
      simp only [Act.put, List.getElem_toArray, List.getElem_cons_zero, List.getElem_cons_succ, List.setIfInBounds_toArray, List.set_cons_zero, List.set_cons_succ]
      refine wpAnyH_take (i := 15) (v := ?_) rfl (by kernel_rfl) (by kernel_rfl) (by kernel_rfl) (fun _ _ _ h => h) (Or.inl ⟨by rfl, ?_⟩) (by assumption) ?_
      rotate_left
      · (intro w hSw; (try dsimp only at hSw); go_simp; try with_reducible rfl)
      simp only [Act.put, List.getElem_toArray, List.getElem_cons_zero, List.getElem_cons_succ, List.setIfInBounds_toArray, List.set_cons_zero, List.set_cons_succ]
      refine wpAnyH_done (by kernel_rfl) ?_ _
      clear hS hHeld3 hx2 hx3 hx4
      go_wp2_with fail
      go_ret
      exact ⟨rfl, HBW.out _ (HW5.out _ (HB7.out.trans (HB8.out.mono HB7.out.size)))⟩
end Go.Proofs.YtaebpnednhkfhaaDoor
