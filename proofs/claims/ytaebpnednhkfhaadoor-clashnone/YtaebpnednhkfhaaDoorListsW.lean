/-
  The walk of marlstonelaw06.ClashLists.
-/
import Derived.Test.YtaebpnednhkfhaaDoorPartQ
import Derived.Test.YtaebpnednhkfhaaDoorPartV
import Derived.Test.YtaebpnednhkfhaaDoorWholeW
import Derived.Test.YtaebpnednhkfhaaDoorShortW
namespace Go.Proofs.YtaebpnednhkfhaaDoor
open Go.RowKit
theorem bytes_ext {l q : List LV} (h : l.length = q.length) (hb : ∀ j, j < q.length → bsAt q j = bsAt l (0 + j)) : bytesL l = bytesL q := by
  apply List.ext_getElem?
  intro j
  by_cases hj : j < q.length
  · have h1 := hb j hj
    unfold bsAt at h1
    rw [List.getD_eq_getElem?_getD, List.getD_eq_getElem?_getD, Nat.zero_add, List.getElem?_eq_getElem (by rw [bytesL_len]; omega), List.getElem?_eq_getElem (by rw [bytesL_len]; omega)] at h1
    rw [List.getElem?_eq_getElem (by rw [bytesL_len]; omega), List.getElem?_eq_getElem (by rw [bytesL_len]; omega)]
    exact congrArg some h1.symm
  · rw [List.getElem?_eq_none (by rw [bytesL_len]; omega), List.getElem?_eq_none (by rw [bytesL_len]; omega)]
theorem crB_lists (z : Int) (real other : List LV) (hr : real.length ≤ 1000) : crB z (rootD z (bytesL real)) real.length 0 other [] = (decide (real.length = other.length ∧ 0 < other.length) && (rootD z (bytesL other) == rootD z (bytesL real))) := by
  unfold crB
  rw [Int.toNat_natCast, show (0 : Int).toNat = 0 from rfl, Nat.zero_add]
  by_cases h : real.length = other.length ∧ 0 < other.length
  · obtain ⟨h1, h2⟩ := h
    have e : fillF z other 0 other.length 64 0 real.length [] = rootD z (bytesL other) := by
      rw [fillF, if_neg (by omega), if_pos (by omega), h1, Nat.sub_zero, Nat.sub_zero, partL_all]
    have hq : ([] : List (List UInt8)).length = (outL 0 real.length 0 other.length).length := by rw [h1, outL_within (by omega) (by omega)]; rfl
    rw [e, decide_eq_true (show 0 < other.length ∧ (0 : Int) ≤ 0 ∧ (0 : Int) + (other.length : Int) ≤ (real.length : Int) ∧ ([] : List (List UInt8)).length = (outL 0 real.length 0 other.length).length from ⟨h2, by omega, by omega, hq⟩), decide_eq_true ⟨h1, h2⟩]
  · rw [decide_eq_false h, Bool.false_and]
    refine Bool.and_eq_false_iff.2 (.inl (decide_eq_false ?_))
    rintro ⟨h1, -, h2, h3⟩
    by_cases h4 : real.length = other.length
    · exact h ⟨h4, h1⟩
    · have h5 := outL_pos (c := 0) (d := other.length) h1 real.length 0 real.length (by omega) (by omega) (by omega) (by omega)
      rw [← h3] at h5
      exact absurd h5 (by simp)
/-- What two lists show. -/
theorem lists_math (z : Int) (real other : List LV) (hr : real.length ≤ 1000) :
    (bytesL real = bytesL other → ofR z real other 0 [] = none) ∧ (real.length ≠ other.length → ofR z real other 0 [] = none) ∧ ((rootD z (bytesL real) == rootD z (bytesL other)) = false → ofR z real other 0 [] = none) ∧
    (bytesL real ≠ bytesL other → real.length = other.length → (rootD z (bytesL real) == rootD z (bytesL other)) = true → ∃ x y, ofR z real other 0 [] = some (x, y) ∧ x ≠ y ∧ keptZ z x = keptZ z y) := by
  have hc := crB_lists z real other hr
  refine ⟨fun h => ?_, fun h => ?_, fun h => ?_, fun h1 h2 h3 => ?_⟩
  · by_cases h0 : 0 < other.length
    · have hl : real.length = other.length := by rw [← bytesL_len, h, bytesL_len]
      rw [decide_eq_true ⟨hl, h0⟩, h, beq_self_eq_true, ← h] at hc
      obtain ⟨i, hi, -, h2, -, -, h4⟩ := ofR_sound z real other 0 [] hr (fun e he => by cases he) hc
      have hi0 : i = 0 := by omega
      subst hi0
      refine h4 (fun j hj => ?_) ?_
      · unfold bsAt; rw [h, Nat.zero_add]
      · unfold rangeD
        rw [if_pos ⟨by omega, by omega, by omega⟩, Int.toNat_natCast, Int.toNat_natCast, outL_within (by omega) (by omega)]; rfl
    · exact ofR_no z real other 0 [] (by rw [hc, decide_eq_false (fun h => h0 h.2), Bool.false_and])
  · exact ofR_no z real other 0 [] (by rw [hc, decide_eq_false (fun h' => h h'.1), Bool.false_and])
  · have h' : (rootD z (bytesL other) == rootD z (bytesL real)) = false := by rw [beq_eq_false_iff_ne] at h ⊢; exact fun e => h e.symm
    exact ofR_no z real other 0 [] (by rw [hc, h', Bool.and_false])
  · have h0 : 0 < other.length := by
      rcases Nat.eq_zero_or_pos other.length with h | h
      · exact absurd (by rw [List.length_eq_zero_iff.1 h, List.length_eq_zero_iff.1 (h2.trans h)]) h1
      · exact h
    have h3' : (rootD z (bytesL other) == rootD z (bytesL real)) = true := by rw [beq_iff_eq] at h3 ⊢; exact h3.symm
    rw [decide_eq_true ⟨h2, h0⟩, h3'] at hc
    obtain ⟨i, hi, -, h4, h5, h6, -⟩ := ofR_sound z real other 0 [] hr (fun e he => by cases he) hc
    have hi0 : i = 0 := by omega
    subst hi0
    cases ho : ofR z real other 0 [] with
    | none => exact absurd (bytes_ext h2 (h6 ho).1) h1
    | some p => exact ⟨p.1, p.2, rfl, h5 p.1 p.2 ho⟩
theorem oft_true {z : Int} {x y : List UInt8} (h1 : x ≠ y) (h2 : keptZ z x = keptZ z y) : oft z x y = true := by
  unfold oft; rw [decide_eq_true h1, h2, beq_self_eq_true]; rfl
theorem LeavesV.at {w : World} {ao : Option Addr} {n c : Nat} {ls : List LV} (h : LeavesV w ao n c ls) (i : Nat) (p : LV) (hp : ls[i]? = some p) : ∃ b off, ao = some ⟨b, off, none⟩ ∧ w.cell? ⟨b, off + i, none⟩ = some (.slice p.ao p.n p.c) ∧ Bytes w p.ao p.n p.bs := by
  have hl := (List.getElem?_eq_some_iff.1 hp).1
  obtain ⟨b, off, h1, h2⟩ := h.2.2.2 (by have := h.1; omega)
  obtain ⟨h3, h4, -⟩ := h2 i p hp
  exact ⟨b, off, h1, h3, h4⟩
set_option maxRecDepth 100000 in
set_option maxHeartbeats 20000000 in
theorem lists_walk (z : Int) (a0 : Option Addr) (n0 c0 : Nat) (b off : Nat) (ps : List PP) (a02 : Option Addr) (n02 c02 : Nat) (b2 off2 : Nat) (ps2 : List PP) (w : World) (hP : Pieces w b off ps) (hn : ps.length = n0) (ha : 0 < n0 → a0 = some ⟨b, off, none⟩) (hP2 : Pieces w b2 off2 ps2) (hn2 : ps2.length = n02) (ha2 : 0 < n02 → a02 = some ⟨b2, off2, none⟩) (hK : WW w 0 ks) (h0 : 0 < w.heap.size) (hz : -9223372036854775808 ≤ z ∧ z ≤ 9223372036854775807) :
    Calls Tryd.prog 17 #[.int .i64 z, .slice a0 n0 c0, .slice a02 n02 c02] w fun e w' => e = .returned (.bool true) ∧ Below w.heap.size w w' := by
  have HKW : Hid (WW w 0 ks ∧ 0 < w.heap.size) := ⟨hK, h0⟩
  have HSH : Hid (∀ W, Below w.heap.size w W → Calls Tryd.prog 46 #[] W fun e w' => e = .returned (.bool true) ∧ Below W.heap.size W w') := fun W hW => shown6_any W (hK.below hW h0) (Nat.lt_of_lt_of_le h0 hW.size)
  have HSM : Hid (∀ W, Below w.heap.size w W → Calls Tryd.prog 47 #[.slice a0 n0 c0] W fun e w' => ∃ ao' n' c', e = .returned (.slice ao' n' c') ∧ CutV w' ao' n' c' (cutL ps 40 100) ∧ n' ≤ 40 ∧ Below W.heap.size W w') := fun W hW => small6_any b off n0 c0 a0 ps W (hP.below hW (Nat.le_refl _)) hn ha
  have HSM2 : Hid (∀ W, Below w.heap.size w W → Calls Tryd.prog 47 #[.slice a02 n02 c02] W fun e w' => ∃ ao' n' c', e = .returned (.slice ao' n' c') ∧ CutV w' ao' n' c' (cutL ps2 40 100) ∧ n' ≤ 40 ∧ Below W.heap.size W w') := fun W hW => small6_any b2 off2 n02 c02 a02 ps2 W (hP2.below hW (Nat.le_refl _)) hn2 ha2
  have HZ : Hid (-9223372036854775808 ≤ z ∧ z ≤ 9223372036854775807) := hz
  clear hP hn ha hP2 hn2 ha2 hK h0 hz
  go_enter Tryd.func17, Tryd.ntmps17
  go_wp2_with fail
  refine (HSH.out _ (Below.refl _ _)).mono ?_
  rintro e w1 ⟨rfl, hb1⟩
  have HB1 : Hid (Below w.heap.size w w1) := hb1
  clear hb1
  go_wp2_with fail
  refine (HSM.out _ HB1.out).mono ?_
  rintro e w2a ⟨ao, n, c, rfl, ⟨ls, hL, hE⟩, hn40, hb2⟩
  have HLV0 : Hid (LeavesV w2a ao n c ls) := hL
  have HN40 : Hid (n ≤ 40) := hn40
  have HB2a : Hid (Below w.heap.size w w2a) := HB1.out.trans (hb2.mono HB1.out.size)
  clear hL hE hn40 hb2
  go_wp2_with fail
  refine (HSM2.out _ HB2a.out).mono ?_
  rintro e w2 ⟨qo, qn, qc, rfl, ⟨qs, hL, hE⟩, hn40, hb2⟩
  have HLV : Hid (LeavesV w2 ao n c ls) := HLV0.out.below hb2 (Nat.le_refl _)
  have HQV : Hid (LeavesV w2 qo qn qc qs) := hL
  have HQ40 : Hid (qn ≤ 40) := hn40
  have HB2 : Hid (Below w.heap.size w w2) := HB2a.out.trans (hb2.mono HB2a.out.size)
  have HKB : Hid (∀ W, Below w2.heap.size w2 W → WW W 0 ks ∧ 0 < W.heap.size) := fun W hW => by
    have h1 := HB2.out.trans (hW.mono HB2.out.size)
    exact ⟨HKW.out.1.below h1 HKW.out.2, Nat.lt_of_lt_of_le HKW.out.2 h1.size⟩
  clear hL hE hn40 hb2 HB1 HSH HSM HSM2 HB2a HLV0
  obtain ⟨w3, HW3⟩ : ∃ W, Hid (w2.alloc (Obj.cells #[Value.int IntKind.i64 z] 30) = W) := ⟨_, rfl⟩
  have HB3 : Hid (Below w2.heap.size w2 w3) := by show Below _ _ _; rw [← HW3.out]; exact bel_alloc _ _
  have HN3 : Hid (w3.heap[w2.heap.size]? = some (.cells #[Value.int IntKind.i64 z] 30 (0, 0))) := by show _ = _; rw [← HW3.out]; exact heap_alloc_new _ _
  have HKB3 : Hid (∀ W, Below w3.heap.size w3 W → WW W 0 ks ∧ 0 < W.heap.size) := fun W hW => HKB.out W (HB3.out.trans (hW.mono HB3.out.size))
  have HLV3 : Hid (∀ W, Below w3.heap.size w3 W → LeavesV W ao n c ls) := fun W hW => (HLV.out.below HB3.out (Nat.le_refl _)).below hW (Nat.le_refl _)
  have HBW : Hid (∀ W, Below w3.heap.size w3 W → Below w.heap.size w W) := fun W hW => HB2.out.trans ((HB3.out.trans (hW.mono HB3.out.size)).mono HB2.out.size)
  have HNC : Hid (n ≤ c ∧ c ≤ 9223372036854775807) := ⟨HLV.out.2.1, HLV.out.2.2.1⟩
  have HCZ : Hid (∀ W, Below w3.heap.size w3 W → W.cell? ⟨w2.heap.size, 0, none⟩ = some (.int .i64 z)) := fun W hW => bel_cell2 hW (Nat.le_refl _) (by rw [cell_of_row w3 _ 0 _ _ _ HN3.out]; rfl)
  obtain ⟨al, HAL⟩ : ∃ b, Hid (decide (bytesL ls = bytesL qs) = b) := ⟨_, rfl⟩
  obtain ⟨o, HO⟩ : ∃ o, Hid (ofR z ls qs 0 [] = o) := ⟨_, rfl⟩
  have HLM : Hid _ := lists_math z ls qs (by have := HLV.out.1; have := HN40.out; omega)
  rw [HO.out] at HLM
  have HLN : Hid (ls.length = n ∧ qs.length = qn) := ⟨HLV.out.1, HQV.out.1⟩
  have HQV3 : Hid (∀ W, Below w3.heap.size w3 W → LeavesV W qo qn qc qs) := fun W hW => (HQV.out.below HB3.out (Nat.le_refl _)).below hW (Nat.le_refl _)
  have HOL : Hid (∀ W, Below w3.heap.size w3 W → Calls Tryd.prog 54 #[.agg #[.int .i64 z], .slice ao n c, .slice qo qn qc] W fun e w' => AnsR o e w' ∧ Below W.heap.size W w') := fun W hW => by
    have h := ofLists_any z ao n c ls qo qn qc qs W (HLV3.out W hW) (by have := HN40.out; omega) (HQV3.out W hW) (by have := HQ40.out; omega) (HKB3.out W hW).1 (HKB3.out W hW).2 HZ.out
    rw [HO.out] at h; exact h
  have hcz := HCZ.out _ (Below.refl _ _)
  go_wp2_with fail
  rw [HW3.out]
  clear hcz
  refine (HOL.out _ (Below.refl _ _)).mono ?_
  rintro e w4 ⟨⟨xa, xn, xc, ya, yn, yc, rfl, t1, t2⟩, hb4⟩
  have HB4 : Hid (Below w3.heap.size w3 w4) := hb4
  have HT4 : Hid (∀ W, Below w4.heap.size w4 W → TxV W xa xn xc (oA o) ∧ TxV W ya yn yc (oB o)) := fun W hW => ⟨t1.below hW (Nat.le_refl _), t2.below hW (Nat.le_refl _)⟩
  have HW4 : Hid (∀ W, Below w4.heap.size w4 W → Below w3.heap.size w3 W) := fun W hW => HB4.out.trans (hW.mono HB4.out.size)
  clear t1 t2 hb4 HOL HW3
  obtain ⟨e0, HE0⟩ : ∃ b : Bool, Hid (decide (n = qn) = b) := ⟨_, rfl⟩
  have he0 : ((n : Int) == (qn : Int)) = e0 := by
    rw [← HE0.out, Bool.eq_iff_iff, beq_iff_eq, decide_eq_true_eq]; omega
  go_wp2_with fail
  clear he0
  go_loopw [12, 13] (fun s12 s13 wr => ∃ (i : Nat) (t : Bool), s13 = .int .i64 i ∧ s12 = .bool t ∧ i ≤ n ∧ Hid (al = true → t = true) ∧ Hid (t = true → n = qn ∧ (bytesL ls).take i = (bytesL qs).take i) ∧ Hid (Below w4.heap.size w4 wr)) (fun _ x _ => n - (intOf x).toNat)
  case atStart =>
    refine ⟨0, e0, rfl, rfl, Nat.zero_le _, fun h => ?_, fun h => ?_, Below.refl _ _⟩
    · rw [← HE0.out, decide_eq_true_eq]
      rw [← HAL.out, decide_eq_true_eq] at h
      have h2 := congrArg List.length h
      rw [bytesL_len, bytesL_len] at h2
      have := HLN.out
      omega
    · rw [← HE0.out, decide_eq_true_eq] at h
      exact ⟨h, rfl⟩
  case round =>
    obtain ⟨i, t, rfl, rfl, hin, HI1, HI2, HBR⟩ := hrel
    by_cases hgo : i < n ∧ t = true
    case neg =>
      have HTA : Hid (t = al) := by
        show t = al
        cases t with
        | false =>
          cases hal : al with
          | false => rfl
          | true => exact (HI1.out hal)
        | true =>
          have hi : i = n := by
            rcases Nat.lt_or_ge i n with h | h
            · exact absurd ⟨h, rfl⟩ hgo
            · omega
          obtain ⟨h1, h2⟩ := HI2.out rfl
          have := HLN.out
          rw [hi, List.take_of_length_le (by rw [bytesL_len]; omega), List.take_of_length_le (by rw [bytesL_len]; omega)] at h2
          rw [← HAL.out, decide_eq_true h2]
      rw [HTA.out] at hgo ⊢
      clear HTA HI1 HI2 HE0
      have HRO1 : Hid (∀ W, Below w4.heap.size w4 W → Calls Tryd.prog 23 #[.agg #[.int .i64 z], .slice ao n c] W fun e w' => e = .returned (.agg (cellsOf (rootD z (bytesL ls))).toArray) ∧ Below W.heap.size W w') := fun W hW => root_any z HZ.out n ao c ls W (HLV3.out W (HW4.out W hW)) (by have := HN40.out; omega) (HKB3.out W (HW4.out W hW)).1 (HKB3.out W (HW4.out W hW)).2
      have HRO2 : Hid (∀ W, Below w4.heap.size w4 W → Calls Tryd.prog 23 #[.agg #[.int .i64 z], .slice qo qn qc] W fun e w' => e = .returned (.agg (cellsOf (rootD z (bytesL qs))).toArray) ∧ Below W.heap.size W w') := fun W hW => root_any z HZ.out qn qo qc qs W (HQV3.out W (HW4.out W hW)) (by have := HQ40.out; omega) (HKB3.out W (HW4.out W hW)).1 (HKB3.out W (HW4.out W hW)).2
      obtain ⟨g1, HG1⟩ : ∃ d, Hid (rootD z (bytesL ls) = d) := ⟨_, rfl⟩
      obtain ⟨g2, HG2⟩ : ∃ d, Hid (rootD z (bytesL qs) = d) := ⟨_, rfl⟩
      have HGL : Hid (g1.length = 32 ∧ g2.length = 32) := by show _ ∧ _; rw [← HG1.out, ← HG2.out]; exact ⟨rootD_length _ _, rootD_length _ _⟩
      rw [HG1.out] at HRO1 HLM
      rw [HG2.out] at HRO2 HLM
      have HS4 : Hid (∀ W, Below w4.heap.size w4 W → W.cell? ⟨w2.heap.size, 0, none⟩ = some (.int .i64 z)) := fun W hW => HCZ.out W (HW4.out W hW)
      by_cases hi : i < n
      case pos =>
        have hiz : (i : Int) < (n : Int) := by omega
        have hal : al = false := by
          cases h : al with
          | false => rfl
          | true => exact absurd ⟨hi, h⟩ hgo
        subst hal
        clear hgo
        have HAL2 : Hid (bytesL ls ≠ bytesL qs) := of_decide_eq_false HAL.out
        by_cases hnq : n = qn
        case pos =>
          have hnzb : ((n : Int) != (qn : Int)) = false := by simp; omega
          have hnzc : ((n : Int) == (qn : Int)) = true := by simp; omega
          have hnzd : decide ((n : Int) = (qn : Int)) = true := by simp; omega
          have HNE : Hid (n = qn) := hnq
          clear hnq
          have hne := run_ne_dig g1 g2 HGL.out.1 HGL.out.2
          have heq2 := equalIn_dig g1 g2 HGL.out.1 HGL.out.2
          have hg := guard24
          obtain ⟨r, HR⟩ : ∃ b, Hid ((g1 == g2) = b) := ⟨_, rfl⟩
          rw [HR.out] at hne heq2
          go_upto_region 11 with fail
          refine wp_region_held_drew (S := fun W => W.cell? ⟨w2.heap.size, 0, none⟩ = some (.int .i64 z)) (by kernel_rfl) (HS4.out _ (Below.drew HBR.out)) (fun hS => ?_)
          refine wpAnyH_take (i := 0) (v := ?_) rfl (by kernel_rfl) (by kernel_rfl) (by kernel_rfl) (fun _ _ _ h => h) (Or.inl ⟨by rfl, ?_⟩) (by assumption) ?_
          rotate_left
          · (intro w hSw; (try dsimp only at hSw); go_simp; try with_reducible rfl)
          simp only [Act.put, List.getElem_toArray, List.getElem_cons_zero, List.setIfInBounds_toArray, List.set_cons_zero, List.set_cons_succ]
          refine wpAnyH_take (i := 1) (v := ?_) rfl (by kernel_rfl) (by kernel_rfl) (by kernel_rfl) (fun _ _ _ h => h) (Or.inl ⟨by rfl, ?_⟩) (by assumption) ?_
          rotate_left
          · (intro w hSw; (try dsimp only at hSw); go_simp; try with_reducible rfl)
          simp only [Act.put, List.getElem_toArray, List.getElem_cons_zero, List.getElem_cons_succ, List.setIfInBounds_toArray, List.set_cons_zero, List.set_cons_succ]
          refine wpAnyH_take (i := 2) (v := ?_) rfl (by kernel_rfl) (by kernel_rfl) (by kernel_rfl) (fun _ _ _ h => h) (Or.inl ⟨by rfl, ?_⟩) (by assumption) ?_
          rotate_left
          · (intro w hSw; (try dsimp only at hSw); go_simp; try with_reducible rfl)
          simp only [Act.put, List.getElem_toArray, List.getElem_cons_zero, List.getElem_cons_succ, List.setIfInBounds_toArray, List.set_cons_zero, List.set_cons_succ]
          refine wpAnyH_take (i := 3) (v := ?_) rfl (by kernel_rfl) (by kernel_rfl) (by kernel_rfl) (fun _ _ _ h => h) (Or.inl ⟨by rfl, ?_⟩) (by assumption) ?_
          rotate_left
          · (intro w hSw; (try dsimp only at hSw); go_simp; try with_reducible rfl)
          simp only [Act.put, List.getElem_toArray, List.getElem_cons_zero, List.getElem_cons_succ, List.setIfInBounds_toArray, List.set_cons_zero, List.set_cons_succ]
          refine wpAnyH_take (i := 4) (v := ?_) rfl (by kernel_rfl) (by kernel_rfl) (by kernel_rfl) (fun _ _ _ h => h) (Or.inl ⟨by rfl, ?_⟩) (by assumption) ?_
          rotate_left
          · (intro w hSw; (try dsimp only at hSw); go_simp; try with_reducible rfl)
          simp only [Act.put, List.getElem_toArray, List.getElem_cons_zero, List.getElem_cons_succ, List.setIfInBounds_toArray, List.set_cons_zero, List.set_cons_succ]
          refine wpAnyH_take (i := 5) (v := ?_) rfl (by kernel_rfl) (by kernel_rfl) (by kernel_rfl) (fun _ _ _ h => h) (Or.inl ⟨by rfl, ?_⟩) (by assumption) ?_
          rotate_left
          · (intro w hSw; (try dsimp only at hSw); go_simp; try with_reducible rfl)
          simp only [Act.put, List.getElem_toArray, List.getElem_cons_zero, List.getElem_cons_succ, List.setIfInBounds_toArray, List.set_cons_zero, List.set_cons_succ]
          refine wpAnyH_take (i := 6) (v := ?_) rfl (by kernel_rfl) (by kernel_rfl) (by kernel_rfl) (fun _ _ _ h => h) (Or.inl ⟨by rfl, ?_⟩) (by assumption) ?_
          rotate_left
          · (intro w hSw; (try dsimp only at hSw); go_simp; try with_reducible rfl)
          simp only [Act.put, List.getElem_toArray, List.getElem_cons_zero, List.getElem_cons_succ, List.setIfInBounds_toArray, List.set_cons_zero, List.set_cons_succ]
          refine wpAnyH_take (i := 7) (v := ?_) rfl (by kernel_rfl) (by kernel_rfl) (by kernel_rfl) (fun _ _ _ h => h) (Or.inl ⟨by rfl, ?_⟩) (by assumption) ?_
          rotate_left
          · (intro w hSw; (try dsimp only at hSw); go_simp; try with_reducible rfl)
          simp only [Act.put, List.getElem_toArray, List.getElem_cons_zero, List.getElem_cons_succ, List.setIfInBounds_toArray, List.set_cons_zero, List.set_cons_succ]
          refine wpAnyH_take (i := 8) (v := ?_) rfl (by kernel_rfl) (by kernel_rfl) (by kernel_rfl) (fun _ _ _ h => h) (Or.inl ⟨by rfl, ?_⟩) (by assumption) ?_
          rotate_left
          · (intro w hSw; (try dsimp only at hSw); go_simp; try with_reducible rfl)
          simp only [Act.put, List.getElem_toArray, List.getElem_cons_zero, List.getElem_cons_succ, List.setIfInBounds_toArray, List.set_cons_zero, List.set_cons_succ]
          refine wpAnyH_take (i := 9) (v := ?_) rfl (by kernel_rfl) (by kernel_rfl) (by kernel_rfl) (fun _ _ _ h => h) (Or.inl ⟨by rfl, ?_⟩) (by assumption) ?_
          rotate_left
          · (intro w hSw; (try dsimp only at hSw); go_simp; try with_reducible rfl)
          simp only [Act.put, List.getElem_toArray, List.getElem_cons_zero, List.getElem_cons_succ, List.setIfInBounds_toArray, List.set_cons_zero, List.set_cons_succ]
          refine wpAnyH_take (i := 10) (v := ?_) rfl (by kernel_rfl) (by kernel_rfl) (by kernel_rfl) (fun _ _ _ h => h) (Or.inl ⟨by rfl, ?_⟩) (by assumption) ?_
          rotate_left
          · (intro w hSw; (try dsimp only at hSw); go_simp; try with_reducible rfl)
          simp only [Act.put, List.getElem_toArray, List.getElem_cons_zero, List.getElem_cons_succ, List.setIfInBounds_toArray, List.set_cons_zero, List.set_cons_succ]
          refine wpAnyH_take (i := 12) (v := ?_) rfl (by kernel_rfl) (by kernel_rfl) (by kernel_rfl) (fun _ _ _ h => h) (Or.inl ⟨by rfl, ?_⟩) (by assumption) ?_
          rotate_left
          · (intro w hSw; (try dsimp only at hSw); go_simp; try with_reducible rfl)
          simp only [Act.put, List.getElem_toArray, List.getElem_cons_zero, List.getElem_cons_succ, List.setIfInBounds_toArray, List.set_cons_zero, List.set_cons_succ]
          refine wpAnyH_take (i := 13) (v := ?_) rfl (by kernel_rfl) (by kernel_rfl) (by kernel_rfl) (fun _ _ _ h => h) (Or.inl ⟨by rfl, ?_⟩) (by assumption) ?_
          rotate_left
          · (intro w hSw; (try dsimp only at hSw); go_simp; try with_reducible rfl)
          simp only [Act.put, List.getElem_toArray, List.getElem_cons_zero, List.getElem_cons_succ, List.setIfInBounds_toArray, List.set_cons_zero, List.set_cons_succ]
          refine wpAnyH_ready (rs := [11]) (by kernel_rfl) (by simp) ?_
          refine AllReadyH.cons rfl (fun K hK => ?_) AllReadyH.nil
          go_simp
          refine (HRO1.out _ (Below.drew HBR.out)).mono ?_
          rintro e w5 ⟨rfl, hb5⟩
          have HB5 : Hid (Below w4.heap.size w4 w5) := (Below.drew HBR.out).trans (hb5.mono (Below.drew HBR.out).size)
          go_wp2_with fail
          refine hK.out _ _ (HS4.out _ HB5.out) (fun hHeld2 => ?_)
          clear hK K hb5
          refine wpAnyH_ready (rs := [14]) (by kernel_rfl) (by simp) ?_
          refine AllReadyH.cons rfl (fun K hK => ?_) AllReadyH.nil
          go_simp
          refine (HRO2.out _ HB5.out).mono ?_
          rintro e w6 ⟨rfl, hb6⟩
          have HB6 : Hid (Below w4.heap.size w4 w6) := HB5.out.trans (hb6.mono HB5.out.size)
          go_wp2_with fail
          refine hK.out _ _ (HS4.out _ HB6.out) (fun hHeld3 => ?_)
          clear hK K hb6 hHeld2
          refine wpAnyH_take (i := 15) (v := ?_) rfl (by kernel_rfl) (by kernel_rfl) (by kernel_rfl) (fun _ _ _ h => h) (Or.inl ⟨by rfl, ?_⟩) (by assumption) ?_
          rotate_left
          · (intro w hSw; (try dsimp only at hSw); go_simp; try with_reducible rfl)
          simp only [Act.put, List.getElem_toArray, List.getElem_cons_zero, List.getElem_cons_succ, List.setIfInBounds_toArray, List.set_cons_zero, List.set_cons_succ]
          refine wpAnyH_take (i := 16) (v := ?_) rfl (by kernel_rfl) (by kernel_rfl) (by kernel_rfl) (fun _ _ _ h => h) (Or.inl ⟨by rfl, ?_⟩) (by assumption) ?_
          rotate_left
          · (intro w hSw; (try dsimp only at hSw); go_simp; try with_reducible rfl)
          simp only [Act.put, List.getElem_toArray, List.getElem_cons_zero, List.getElem_cons_succ, List.setIfInBounds_toArray, List.set_cons_zero, List.set_cons_succ]
          refine wpAnyH_done (by kernel_rfl) ?_ _
          clear hS hHeld3 hne heq2 hg
          cases r with
          | false =>
            have HON : Hid (o = none) := HLM.out.2.2.1 HR.out
            have hoS : o.isSome = false := by rw [HON.out]; rfl
            have HX0 : Hid (xn = 0 ∧ yn = 0) := by
              obtain ⟨q1, q2⟩ := HT4.out _ (Below.refl _ _)
              rw [HON.out] at q1 q2
              exact ⟨q1.1.1.symm, q2.1.1.symm⟩
            have hx0 : ((xn : Int) == 0) = true := by rw [HX0.out.1]; rfl
            have hy0 : ((yn : Int) == 0) = true := by rw [HX0.out.2]; rfl
            have hx1 : (xn : Int) = 0 := by rw [HX0.out.1]; rfl
            have hy1 : (yn : Int) = 0 := by rw [HX0.out.2]; rfl
            go_wp2_with fail
            go_ret
            exact ⟨rfl, HBW.out _ (HW4.out _ HB6.out)⟩
          | true =>
            obtain ⟨x, y, ho, hxy0, hxk0⟩ := HLM.out.2.2.2 HAL2.out (by have := HLN.out; have := HNE.out; omega) HR.out
            have HON : Hid (o = some (x, y)) := ho
            have hoS : o.isSome = true := by rw [HON.out]; rfl
            clear ho
            have HXY : Hid (x ≠ y) := hxy0
            have HXK : Hid (keptZ z x = keptZ z y) := hxk0
            clear hxy0 hxk0
            have HTX : Hid (∀ W, Below w4.heap.size w4 W → TxV W xa xn xc x ∧ TxV W ya yn yc y) := fun W hW => by have h := HT4.out W hW; rw [HON.out] at h; exact h
            have sa := str_bytes xc (HTX.out _ HB6.out).1.1
            have sb := str_bytes yc (HTX.out _ HB6.out).2.1
            have hxy : (x == y) = false := by rw [beq_eq_false_iff_ne]; exact HXY.out
            have hxz := HS4.out _ HB6.out
            have HOT : Hid (∀ W, Below w4.heap.size w4 W → Calls Tryd.prog 50 #[.agg #[.int .i64 z], .slice xa xn xc, .slice ya yn yc] W fun e w' => e = .returned (.bool true) ∧ Below W.heap.size W w') := fun W hW => by
              have h := ofTexts_any z xa xn xc x ya yn yc y W (HTX.out _ hW).1 (HTX.out _ hW).2 (HKB3.out _ (HW4.out _ hW)).1 (HKB3.out _ (HW4.out _ hW)).2 HZ.out
              rw [oft_true HXY.out HXK.out] at h; exact h
            clear HXY HXK HON
            try clear hnzb hnzc hnzd
            try clear hiz
            try clear HLM HAL HAL2 HR HNE HLN
            go_wp2_with fail
            refine (HOT.out _ HB6.out).mono ?_
            rintro e wz ⟨rfl, hbz⟩
            have HBZ : Hid (Below w4.heap.size w4 wz) := HB6.out.trans (hbz.mono HB6.out.size)
            clear hbz sa sb hxy hxz
            go_wp2_with fail
            go_ret
            exact ⟨rfl, HBW.out _ (HW4.out _ HBZ.out)⟩
        case neg =>
          have hnz : (n : Int) ≠ (qn : Int) := by omega
          have hnzb : ((n : Int) != (qn : Int)) = true := by simp; omega
          have hnzd : decide ((n : Int) = (qn : Int)) = false := by simp; omega
          have hnzi : ¬ (n : Int) = (qn : Int) := by omega
          have HON : Hid (o = none) := HLM.out.2.1 (by have := HLN.out; omega)
          have hoS : o.isSome = false := by rw [HON.out]; rfl
          have HX0 : Hid (xn = 0 ∧ yn = 0) := by
            obtain ⟨q1, q2⟩ := HT4.out _ (Below.refl _ _)
            rw [HON.out] at q1 q2
            exact ⟨q1.1.1.symm, q2.1.1.symm⟩
          have hx0 : ((xn : Int) == 0) = true := by rw [HX0.out.1]; rfl
          have hy0 : ((yn : Int) == 0) = true := by rw [HX0.out.2]; rfl
          have hx1 : (xn : Int) = 0 := by rw [HX0.out.1]; rfl
          have hy1 : (yn : Int) = 0 := by rw [HX0.out.2]; rfl
          clear hnq
          go_upto_region 11 with fail
          refine wp_region_held_drew (S := fun W => W.cell? ⟨w2.heap.size, 0, none⟩ = some (.int .i64 z)) (by kernel_rfl) (HS4.out _ (Below.drew HBR.out)) (fun hS => ?_)
          refine wpAnyH_take (i := 0) (v := ?_) rfl (by kernel_rfl) (by kernel_rfl) (by kernel_rfl) (fun _ _ _ h => h) (Or.inl ⟨by rfl, ?_⟩) (by assumption) ?_
          rotate_left
          · (intro w hSw; (try dsimp only at hSw); go_simp; try with_reducible rfl)
          simp only [Act.put, List.getElem_toArray, List.getElem_cons_zero, List.setIfInBounds_toArray, List.set_cons_zero, List.set_cons_succ]
          refine wpAnyH_take (i := 1) (v := ?_) rfl (by kernel_rfl) (by kernel_rfl) (by kernel_rfl) (fun _ _ _ h => h) (Or.inl ⟨by rfl, ?_⟩) (by assumption) ?_
          rotate_left
          · (intro w hSw; (try dsimp only at hSw); go_simp; try with_reducible rfl)
          simp only [Act.put, List.getElem_toArray, List.getElem_cons_zero, List.getElem_cons_succ, List.setIfInBounds_toArray, List.set_cons_zero, List.set_cons_succ]
          refine wpAnyH_take (i := 2) (v := ?_) rfl (by kernel_rfl) (by kernel_rfl) (by kernel_rfl) (fun _ _ _ h => h) (Or.inl ⟨by rfl, ?_⟩) (by assumption) ?_
          rotate_left
          · (intro w hSw; (try dsimp only at hSw); go_simp; try with_reducible rfl)
          simp only [Act.put, List.getElem_toArray, List.getElem_cons_zero, List.getElem_cons_succ, List.setIfInBounds_toArray, List.set_cons_zero, List.set_cons_succ]
          refine wpAnyH_take (i := 3) (v := ?_) rfl (by kernel_rfl) (by kernel_rfl) (by kernel_rfl) (fun _ _ _ h => h) (Or.inl ⟨by rfl, ?_⟩) (by assumption) ?_
          rotate_left
          · (intro w hSw; (try dsimp only at hSw); go_simp; try with_reducible rfl)
          simp only [Act.put, List.getElem_toArray, List.getElem_cons_zero, List.getElem_cons_succ, List.setIfInBounds_toArray, List.set_cons_zero, List.set_cons_succ]
          refine wpAnyH_take (i := 4) (v := ?_) rfl (by kernel_rfl) (by kernel_rfl) (by kernel_rfl) (fun _ _ _ h => h) (Or.inl ⟨by rfl, ?_⟩) (by assumption) ?_
          rotate_left
          · (intro w hSw; (try dsimp only at hSw); go_simp; try with_reducible rfl)
          simp only [Act.put, List.getElem_toArray, List.getElem_cons_zero, List.getElem_cons_succ, List.setIfInBounds_toArray, List.set_cons_zero, List.set_cons_succ]
          refine wpAnyH_take (i := 5) (v := ?_) rfl (by kernel_rfl) (by kernel_rfl) (by kernel_rfl) (fun _ _ _ h => h) (Or.inl ⟨by rfl, ?_⟩) (by assumption) ?_
          rotate_left
          · (intro w hSw; (try dsimp only at hSw); go_simp; try with_reducible rfl)
          simp only [Act.put, List.getElem_toArray, List.getElem_cons_zero, List.getElem_cons_succ, List.setIfInBounds_toArray, List.set_cons_zero, List.set_cons_succ]
          refine wpAnyH_take (i := 6) (v := ?_) rfl (by kernel_rfl) (by kernel_rfl) (by kernel_rfl) (fun _ _ _ h => h) (Or.inl ⟨by rfl, ?_⟩) (by assumption) ?_
          rotate_left
          · (intro w hSw; (try dsimp only at hSw); go_simp; try with_reducible rfl)
          simp only [Act.put, List.getElem_toArray, List.getElem_cons_zero, List.getElem_cons_succ, List.setIfInBounds_toArray, List.set_cons_zero, List.set_cons_succ]
          refine wpAnyH_take (i := 7) (v := ?_) rfl (by kernel_rfl) (by kernel_rfl) (by kernel_rfl) (fun _ _ _ h => h) (Or.inl ⟨by rfl, ?_⟩) (by assumption) ?_
          rotate_left
          · (intro w hSw; (try dsimp only at hSw); go_simp; try with_reducible rfl)
          simp only [Act.put, List.getElem_toArray, List.getElem_cons_zero, List.getElem_cons_succ, List.setIfInBounds_toArray, List.set_cons_zero, List.set_cons_succ]
          refine wpAnyH_take (i := 8) (v := ?_) rfl (by kernel_rfl) (by kernel_rfl) (by kernel_rfl) (fun _ _ _ h => h) (Or.inl ⟨by rfl, ?_⟩) (by assumption) ?_
          rotate_left
          · (intro w hSw; (try dsimp only at hSw); go_simp; try with_reducible rfl)
          simp only [Act.put, List.getElem_toArray, List.getElem_cons_zero, List.getElem_cons_succ, List.setIfInBounds_toArray, List.set_cons_zero, List.set_cons_succ]
          refine wpAnyH_take (i := 9) (v := undef) rfl (by kernel_rfl) (by kernel_rfl) (by kernel_rfl) (fun _ _ _ h => h) (Or.inr ⟨by rfl, rfl⟩) (by assumption) ?_
          simp only [Act.put, List.getElem_toArray, List.getElem_cons_zero, List.getElem_cons_succ, List.setIfInBounds_toArray, List.set_cons_zero, List.set_cons_succ]
          refine wpAnyH_take (i := 10) (v := undef) rfl (by kernel_rfl) (by kernel_rfl) (by kernel_rfl) (fun _ _ _ h => h) (Or.inr ⟨by rfl, rfl⟩) (by assumption) ?_
          simp only [Act.put, List.getElem_toArray, List.getElem_cons_zero, List.getElem_cons_succ, List.setIfInBounds_toArray, List.set_cons_zero, List.set_cons_succ]
          refine wpAnyH_take (i := 11) (v := undef) rfl (by kernel_rfl) (by kernel_rfl) (by kernel_rfl) (fun _ _ _ h => h) (Or.inr ⟨by rfl, rfl⟩) (by assumption) ?_
          simp only [Act.put, List.getElem_toArray, List.getElem_cons_zero, List.getElem_cons_succ, List.setIfInBounds_toArray, List.set_cons_zero, List.set_cons_succ]
          refine wpAnyH_take (i := 12) (v := undef) rfl (by kernel_rfl) (by kernel_rfl) (by kernel_rfl) (fun _ _ _ h => h) (Or.inr ⟨by rfl, rfl⟩) (by assumption) ?_
          simp only [Act.put, List.getElem_toArray, List.getElem_cons_zero, List.getElem_cons_succ, List.setIfInBounds_toArray, List.set_cons_zero, List.set_cons_succ]
          refine wpAnyH_take (i := 13) (v := undef) rfl (by kernel_rfl) (by kernel_rfl) (by kernel_rfl) (fun _ _ _ h => h) (Or.inr ⟨by rfl, rfl⟩) (by assumption) ?_
          simp only [Act.put, List.getElem_toArray, List.getElem_cons_zero, List.getElem_cons_succ, List.setIfInBounds_toArray, List.set_cons_zero, List.set_cons_succ]
          refine wpAnyH_take (i := 14) (v := undef) rfl (by kernel_rfl) (by kernel_rfl) (by kernel_rfl) (fun _ _ _ h => h) (Or.inr ⟨by rfl, rfl⟩) (by assumption) ?_
          simp only [Act.put, List.getElem_toArray, List.getElem_cons_zero, List.getElem_cons_succ, List.setIfInBounds_toArray, List.set_cons_zero, List.set_cons_succ]
          refine wpAnyH_take (i := 15) (v := undef) rfl (by kernel_rfl) (by kernel_rfl) (by kernel_rfl) (fun _ _ _ h => h) (Or.inr ⟨by rfl, rfl⟩) (by assumption) ?_
          simp only [Act.put, List.getElem_toArray, List.getElem_cons_zero, List.getElem_cons_succ, List.setIfInBounds_toArray, List.set_cons_zero, List.set_cons_succ]
          refine wpAnyH_take (i := 16) (v := ?_) rfl (by kernel_rfl) (by kernel_rfl) (by kernel_rfl) (fun _ _ _ h => h) (Or.inl ⟨by rfl, ?_⟩) (by assumption) ?_
          rotate_left
          · (intro w hSw; (try dsimp only at hSw); go_simp; try with_reducible rfl)
          simp only [Act.put, List.getElem_toArray, List.getElem_cons_zero, List.getElem_cons_succ, List.setIfInBounds_toArray, List.set_cons_zero, List.set_cons_succ]
          refine wpAnyH_done (by kernel_rfl) ?_ _
          clear hS
          clear hnz hnzb hnzd hnzi
          go_wp2_with fail
          go_ret
          exact ⟨rfl, HBW.out _ (HW4.out _ (Below.drew HBR.out))⟩
      case neg =>
        have hiz : ¬ (i : Int) < (n : Int) := by omega
        have hizd : decide ((i : Int) < (n : Int)) = false := by simp; omega
        have hizn : decide (i < n) = false := by simp; omega
        clear hgo hi
        cases al with
        | true =>
          have HON : Hid (o = none) := HLM.out.1 (of_decide_eq_true HAL.out)
          have hoS : o.isSome = false := by rw [HON.out]; rfl
          have HX0 : Hid (xn = 0 ∧ yn = 0) := by
            obtain ⟨q1, q2⟩ := HT4.out _ (Below.refl _ _)
            rw [HON.out] at q1 q2
            exact ⟨q1.1.1.symm, q2.1.1.symm⟩
          have hx0 : ((xn : Int) == 0) = true := by rw [HX0.out.1]; rfl
          have hy0 : ((yn : Int) == 0) = true := by rw [HX0.out.2]; rfl
          have hx1 : (xn : Int) = 0 := by rw [HX0.out.1]; rfl
          have hy1 : (yn : Int) = 0 := by rw [HX0.out.2]; rfl
          go_upto_region 11 with fail
          refine wp_region_held_drew (S := fun W => W.cell? ⟨w2.heap.size, 0, none⟩ = some (.int .i64 z)) (by kernel_rfl) (HS4.out _ (Below.drew HBR.out)) (fun hS => ?_)
          refine wpAnyH_take (i := 0) (v := ?_) rfl (by kernel_rfl) (by kernel_rfl) (by kernel_rfl) (fun _ _ _ h => h) (Or.inl ⟨by rfl, ?_⟩) (by assumption) ?_
          rotate_left
          · (intro w hSw; (try dsimp only at hSw); go_simp; try with_reducible rfl)
          simp only [Act.put, List.getElem_toArray, List.getElem_cons_zero, List.setIfInBounds_toArray, List.set_cons_zero, List.set_cons_succ]
          refine wpAnyH_take (i := 1) (v := ?_) rfl (by kernel_rfl) (by kernel_rfl) (by kernel_rfl) (fun _ _ _ h => h) (Or.inl ⟨by rfl, ?_⟩) (by assumption) ?_
          rotate_left
          · (intro w hSw; (try dsimp only at hSw); go_simp; try with_reducible rfl)
          simp only [Act.put, List.getElem_toArray, List.getElem_cons_zero, List.getElem_cons_succ, List.setIfInBounds_toArray, List.set_cons_zero, List.set_cons_succ]
          refine wpAnyH_take (i := 2) (v := undef) rfl (by kernel_rfl) (by kernel_rfl) (by kernel_rfl) (fun _ _ _ h => h) (Or.inr ⟨by rfl, rfl⟩) (by assumption) ?_
          simp only [Act.put, List.getElem_toArray, List.getElem_cons_zero, List.getElem_cons_succ, List.setIfInBounds_toArray, List.set_cons_zero, List.set_cons_succ]
          refine wpAnyH_take (i := 3) (v := undef) rfl (by kernel_rfl) (by kernel_rfl) (by kernel_rfl) (fun _ _ _ h => h) (Or.inr ⟨by rfl, rfl⟩) (by assumption) ?_
          simp only [Act.put, List.getElem_toArray, List.getElem_cons_zero, List.getElem_cons_succ, List.setIfInBounds_toArray, List.set_cons_zero, List.set_cons_succ]
          refine wpAnyH_take (i := 4) (v := undef) rfl (by kernel_rfl) (by kernel_rfl) (by kernel_rfl) (fun _ _ _ h => h) (Or.inr ⟨by rfl, rfl⟩) (by assumption) ?_
          simp only [Act.put, List.getElem_toArray, List.getElem_cons_zero, List.getElem_cons_succ, List.setIfInBounds_toArray, List.set_cons_zero, List.set_cons_succ]
          refine wpAnyH_take (i := 5) (v := undef) rfl (by kernel_rfl) (by kernel_rfl) (by kernel_rfl) (fun _ _ _ h => h) (Or.inr ⟨by rfl, rfl⟩) (by assumption) ?_
          simp only [Act.put, List.getElem_toArray, List.getElem_cons_zero, List.getElem_cons_succ, List.setIfInBounds_toArray, List.set_cons_zero, List.set_cons_succ]
          refine wpAnyH_take (i := 6) (v := undef) rfl (by kernel_rfl) (by kernel_rfl) (by kernel_rfl) (fun _ _ _ h => h) (Or.inr ⟨by rfl, rfl⟩) (by assumption) ?_
          simp only [Act.put, List.getElem_toArray, List.getElem_cons_zero, List.getElem_cons_succ, List.setIfInBounds_toArray, List.set_cons_zero, List.set_cons_succ]
          refine wpAnyH_take (i := 7) (v := ?_) rfl (by kernel_rfl) (by kernel_rfl) (by kernel_rfl) (fun _ _ _ h => h) (Or.inl ⟨by rfl, ?_⟩) (by assumption) ?_
          rotate_left
          · (intro w hSw; (try dsimp only at hSw); go_simp; try with_reducible rfl)
          simp only [Act.put, List.getElem_toArray, List.getElem_cons_zero, List.getElem_cons_succ, List.setIfInBounds_toArray, List.set_cons_zero, List.set_cons_succ]
          refine wpAnyH_take (i := 8) (v := ?_) rfl (by kernel_rfl) (by kernel_rfl) (by kernel_rfl) (fun _ _ _ h => h) (Or.inl ⟨by rfl, ?_⟩) (by assumption) ?_
          rotate_left
          · (intro w hSw; (try dsimp only at hSw); go_simp; try with_reducible rfl)
          simp only [Act.put, List.getElem_toArray, List.getElem_cons_zero, List.getElem_cons_succ, List.setIfInBounds_toArray, List.set_cons_zero, List.set_cons_succ]
          refine wpAnyH_take (i := 9) (v := undef) rfl (by kernel_rfl) (by kernel_rfl) (by kernel_rfl) (fun _ _ _ h => h) (Or.inr ⟨by rfl, rfl⟩) (by assumption) ?_
          simp only [Act.put, List.getElem_toArray, List.getElem_cons_zero, List.getElem_cons_succ, List.setIfInBounds_toArray, List.set_cons_zero, List.set_cons_succ]
          refine wpAnyH_take (i := 10) (v := undef) rfl (by kernel_rfl) (by kernel_rfl) (by kernel_rfl) (fun _ _ _ h => h) (Or.inr ⟨by rfl, rfl⟩) (by assumption) ?_
          simp only [Act.put, List.getElem_toArray, List.getElem_cons_zero, List.getElem_cons_succ, List.setIfInBounds_toArray, List.set_cons_zero, List.set_cons_succ]
          refine wpAnyH_take (i := 11) (v := undef) rfl (by kernel_rfl) (by kernel_rfl) (by kernel_rfl) (fun _ _ _ h => h) (Or.inr ⟨by rfl, rfl⟩) (by assumption) ?_
          simp only [Act.put, List.getElem_toArray, List.getElem_cons_zero, List.getElem_cons_succ, List.setIfInBounds_toArray, List.set_cons_zero, List.set_cons_succ]
          refine wpAnyH_take (i := 12) (v := undef) rfl (by kernel_rfl) (by kernel_rfl) (by kernel_rfl) (fun _ _ _ h => h) (Or.inr ⟨by rfl, rfl⟩) (by assumption) ?_
          simp only [Act.put, List.getElem_toArray, List.getElem_cons_zero, List.getElem_cons_succ, List.setIfInBounds_toArray, List.set_cons_zero, List.set_cons_succ]
          refine wpAnyH_take (i := 13) (v := undef) rfl (by kernel_rfl) (by kernel_rfl) (by kernel_rfl) (fun _ _ _ h => h) (Or.inr ⟨by rfl, rfl⟩) (by assumption) ?_
          simp only [Act.put, List.getElem_toArray, List.getElem_cons_zero, List.getElem_cons_succ, List.setIfInBounds_toArray, List.set_cons_zero, List.set_cons_succ]
          refine wpAnyH_take (i := 14) (v := undef) rfl (by kernel_rfl) (by kernel_rfl) (by kernel_rfl) (fun _ _ _ h => h) (Or.inr ⟨by rfl, rfl⟩) (by assumption) ?_
          simp only [Act.put, List.getElem_toArray, List.getElem_cons_zero, List.getElem_cons_succ, List.setIfInBounds_toArray, List.set_cons_zero, List.set_cons_succ]
          refine wpAnyH_take (i := 15) (v := undef) rfl (by kernel_rfl) (by kernel_rfl) (by kernel_rfl) (fun _ _ _ h => h) (Or.inr ⟨by rfl, rfl⟩) (by assumption) ?_
          simp only [Act.put, List.getElem_toArray, List.getElem_cons_zero, List.getElem_cons_succ, List.setIfInBounds_toArray, List.set_cons_zero, List.set_cons_succ]
          refine wpAnyH_take (i := 16) (v := ?_) rfl (by kernel_rfl) (by kernel_rfl) (by kernel_rfl) (fun _ _ _ h => h) (Or.inl ⟨by rfl, ?_⟩) (by assumption) ?_
          rotate_left
          · (intro w hSw; (try dsimp only at hSw); go_simp; try with_reducible rfl)
          simp only [Act.put, List.getElem_toArray, List.getElem_cons_zero, List.getElem_cons_succ, List.setIfInBounds_toArray, List.set_cons_zero, List.set_cons_succ]
          refine wpAnyH_done (by kernel_rfl) ?_ _
          clear hS
          go_wp2_with fail
          go_ret
          exact ⟨rfl, HBW.out _ (HW4.out _ (Below.drew HBR.out))⟩
        | false =>
          have HAL2 : Hid (bytesL ls ≠ bytesL qs) := of_decide_eq_false HAL.out
          by_cases hnq : n = qn
          case pos =>
            have hnzb : ((n : Int) != (qn : Int)) = false := by simp; omega
            have hnzc : ((n : Int) == (qn : Int)) = true := by simp; omega
            have hnzd : decide ((n : Int) = (qn : Int)) = true := by simp; omega
            have HNE : Hid (n = qn) := hnq
            clear hnq
            have hne := run_ne_dig g1 g2 HGL.out.1 HGL.out.2
            have heq2 := equalIn_dig g1 g2 HGL.out.1 HGL.out.2
            have hg := guard24
            obtain ⟨r, HR⟩ : ∃ b, Hid ((g1 == g2) = b) := ⟨_, rfl⟩
            rw [HR.out] at hne heq2
            go_upto_region 11 with fail
            refine wp_region_held_drew (S := fun W => W.cell? ⟨w2.heap.size, 0, none⟩ = some (.int .i64 z)) (by kernel_rfl) (HS4.out _ (Below.drew HBR.out)) (fun hS => ?_)
            refine wpAnyH_take (i := 0) (v := ?_) rfl (by kernel_rfl) (by kernel_rfl) (by kernel_rfl) (fun _ _ _ h => h) (Or.inl ⟨by rfl, ?_⟩) (by assumption) ?_
            rotate_left
            · (intro w hSw; (try dsimp only at hSw); go_simp; try with_reducible rfl)
            simp only [Act.put, List.getElem_toArray, List.getElem_cons_zero, List.setIfInBounds_toArray, List.set_cons_zero, List.set_cons_succ]
            refine wpAnyH_take (i := 1) (v := ?_) rfl (by kernel_rfl) (by kernel_rfl) (by kernel_rfl) (fun _ _ _ h => h) (Or.inl ⟨by rfl, ?_⟩) (by assumption) ?_
            rotate_left
            · (intro w hSw; (try dsimp only at hSw); go_simp; try with_reducible rfl)
            simp only [Act.put, List.getElem_toArray, List.getElem_cons_zero, List.getElem_cons_succ, List.setIfInBounds_toArray, List.set_cons_zero, List.set_cons_succ]
            refine wpAnyH_take (i := 2) (v := ?_) rfl (by kernel_rfl) (by kernel_rfl) (by kernel_rfl) (fun _ _ _ h => h) (Or.inl ⟨by rfl, ?_⟩) (by assumption) ?_
            rotate_left
            · (intro w hSw; (try dsimp only at hSw); go_simp; try with_reducible rfl)
            simp only [Act.put, List.getElem_toArray, List.getElem_cons_zero, List.getElem_cons_succ, List.setIfInBounds_toArray, List.set_cons_zero, List.set_cons_succ]
            refine wpAnyH_take (i := 3) (v := ?_) rfl (by kernel_rfl) (by kernel_rfl) (by kernel_rfl) (fun _ _ _ h => h) (Or.inl ⟨by rfl, ?_⟩) (by assumption) ?_
            rotate_left
            · (intro w hSw; (try dsimp only at hSw); go_simp; try with_reducible rfl)
            simp only [Act.put, List.getElem_toArray, List.getElem_cons_zero, List.getElem_cons_succ, List.setIfInBounds_toArray, List.set_cons_zero, List.set_cons_succ]
            refine wpAnyH_take (i := 4) (v := ?_) rfl (by kernel_rfl) (by kernel_rfl) (by kernel_rfl) (fun _ _ _ h => h) (Or.inl ⟨by rfl, ?_⟩) (by assumption) ?_
            rotate_left
            · (intro w hSw; (try dsimp only at hSw); go_simp; try with_reducible rfl)
            simp only [Act.put, List.getElem_toArray, List.getElem_cons_zero, List.getElem_cons_succ, List.setIfInBounds_toArray, List.set_cons_zero, List.set_cons_succ]
            refine wpAnyH_take (i := 5) (v := ?_) rfl (by kernel_rfl) (by kernel_rfl) (by kernel_rfl) (fun _ _ _ h => h) (Or.inl ⟨by rfl, ?_⟩) (by assumption) ?_
            rotate_left
            · (intro w hSw; (try dsimp only at hSw); go_simp; try with_reducible rfl)
            simp only [Act.put, List.getElem_toArray, List.getElem_cons_zero, List.getElem_cons_succ, List.setIfInBounds_toArray, List.set_cons_zero, List.set_cons_succ]
            refine wpAnyH_take (i := 6) (v := ?_) rfl (by kernel_rfl) (by kernel_rfl) (by kernel_rfl) (fun _ _ _ h => h) (Or.inl ⟨by rfl, ?_⟩) (by assumption) ?_
            rotate_left
            · (intro w hSw; (try dsimp only at hSw); go_simp; try with_reducible rfl)
            simp only [Act.put, List.getElem_toArray, List.getElem_cons_zero, List.getElem_cons_succ, List.setIfInBounds_toArray, List.set_cons_zero, List.set_cons_succ]
            refine wpAnyH_take (i := 7) (v := ?_) rfl (by kernel_rfl) (by kernel_rfl) (by kernel_rfl) (fun _ _ _ h => h) (Or.inl ⟨by rfl, ?_⟩) (by assumption) ?_
            rotate_left
            · (intro w hSw; (try dsimp only at hSw); go_simp; try with_reducible rfl)
            simp only [Act.put, List.getElem_toArray, List.getElem_cons_zero, List.getElem_cons_succ, List.setIfInBounds_toArray, List.set_cons_zero, List.set_cons_succ]
            refine wpAnyH_take (i := 8) (v := ?_) rfl (by kernel_rfl) (by kernel_rfl) (by kernel_rfl) (fun _ _ _ h => h) (Or.inl ⟨by rfl, ?_⟩) (by assumption) ?_
            rotate_left
            · (intro w hSw; (try dsimp only at hSw); go_simp; try with_reducible rfl)
            simp only [Act.put, List.getElem_toArray, List.getElem_cons_zero, List.getElem_cons_succ, List.setIfInBounds_toArray, List.set_cons_zero, List.set_cons_succ]
            refine wpAnyH_take (i := 9) (v := ?_) rfl (by kernel_rfl) (by kernel_rfl) (by kernel_rfl) (fun _ _ _ h => h) (Or.inl ⟨by rfl, ?_⟩) (by assumption) ?_
            rotate_left
            · (intro w hSw; (try dsimp only at hSw); go_simp; try with_reducible rfl)
            simp only [Act.put, List.getElem_toArray, List.getElem_cons_zero, List.getElem_cons_succ, List.setIfInBounds_toArray, List.set_cons_zero, List.set_cons_succ]
            refine wpAnyH_take (i := 10) (v := ?_) rfl (by kernel_rfl) (by kernel_rfl) (by kernel_rfl) (fun _ _ _ h => h) (Or.inl ⟨by rfl, ?_⟩) (by assumption) ?_
            rotate_left
            · (intro w hSw; (try dsimp only at hSw); go_simp; try with_reducible rfl)
            simp only [Act.put, List.getElem_toArray, List.getElem_cons_zero, List.getElem_cons_succ, List.setIfInBounds_toArray, List.set_cons_zero, List.set_cons_succ]
            refine wpAnyH_take (i := 12) (v := ?_) rfl (by kernel_rfl) (by kernel_rfl) (by kernel_rfl) (fun _ _ _ h => h) (Or.inl ⟨by rfl, ?_⟩) (by assumption) ?_
            rotate_left
            · (intro w hSw; (try dsimp only at hSw); go_simp; try with_reducible rfl)
            simp only [Act.put, List.getElem_toArray, List.getElem_cons_zero, List.getElem_cons_succ, List.setIfInBounds_toArray, List.set_cons_zero, List.set_cons_succ]
            refine wpAnyH_take (i := 13) (v := ?_) rfl (by kernel_rfl) (by kernel_rfl) (by kernel_rfl) (fun _ _ _ h => h) (Or.inl ⟨by rfl, ?_⟩) (by assumption) ?_
            rotate_left
            · (intro w hSw; (try dsimp only at hSw); go_simp; try with_reducible rfl)
            simp only [Act.put, List.getElem_toArray, List.getElem_cons_zero, List.getElem_cons_succ, List.setIfInBounds_toArray, List.set_cons_zero, List.set_cons_succ]
            refine wpAnyH_ready (rs := [11]) (by kernel_rfl) (by simp) ?_
            refine AllReadyH.cons rfl (fun K hK => ?_) AllReadyH.nil
            go_simp
            refine (HRO1.out _ (Below.drew HBR.out)).mono ?_
            rintro e w5 ⟨rfl, hb5⟩
            have HB5 : Hid (Below w4.heap.size w4 w5) := (Below.drew HBR.out).trans (hb5.mono (Below.drew HBR.out).size)
            go_wp2_with fail
            refine hK.out _ _ (HS4.out _ HB5.out) (fun hHeld2 => ?_)
            clear hK K hb5
            refine wpAnyH_ready (rs := [14]) (by kernel_rfl) (by simp) ?_
            refine AllReadyH.cons rfl (fun K hK => ?_) AllReadyH.nil
            go_simp
            refine (HRO2.out _ HB5.out).mono ?_
            rintro e w6 ⟨rfl, hb6⟩
            have HB6 : Hid (Below w4.heap.size w4 w6) := HB5.out.trans (hb6.mono HB5.out.size)
            go_wp2_with fail
            refine hK.out _ _ (HS4.out _ HB6.out) (fun hHeld3 => ?_)
            clear hK K hb6 hHeld2
            refine wpAnyH_take (i := 15) (v := ?_) rfl (by kernel_rfl) (by kernel_rfl) (by kernel_rfl) (fun _ _ _ h => h) (Or.inl ⟨by rfl, ?_⟩) (by assumption) ?_
            rotate_left
            · (intro w hSw; (try dsimp only at hSw); go_simp; try with_reducible rfl)
            simp only [Act.put, List.getElem_toArray, List.getElem_cons_zero, List.getElem_cons_succ, List.setIfInBounds_toArray, List.set_cons_zero, List.set_cons_succ]
            refine wpAnyH_take (i := 16) (v := ?_) rfl (by kernel_rfl) (by kernel_rfl) (by kernel_rfl) (fun _ _ _ h => h) (Or.inl ⟨by rfl, ?_⟩) (by assumption) ?_
            rotate_left
            · (intro w hSw; (try dsimp only at hSw); go_simp; try with_reducible rfl)
            simp only [Act.put, List.getElem_toArray, List.getElem_cons_zero, List.getElem_cons_succ, List.setIfInBounds_toArray, List.set_cons_zero, List.set_cons_succ]
            refine wpAnyH_done (by kernel_rfl) ?_ _
            clear hS hHeld3 hne heq2 hg
            cases r with
            | false =>
              have HON : Hid (o = none) := HLM.out.2.2.1 HR.out
              have hoS : o.isSome = false := by rw [HON.out]; rfl
              have HX0 : Hid (xn = 0 ∧ yn = 0) := by
                obtain ⟨q1, q2⟩ := HT4.out _ (Below.refl _ _)
                rw [HON.out] at q1 q2
                exact ⟨q1.1.1.symm, q2.1.1.symm⟩
              have hx0 : ((xn : Int) == 0) = true := by rw [HX0.out.1]; rfl
              have hy0 : ((yn : Int) == 0) = true := by rw [HX0.out.2]; rfl
              have hx1 : (xn : Int) = 0 := by rw [HX0.out.1]; rfl
              have hy1 : (yn : Int) = 0 := by rw [HX0.out.2]; rfl
              go_wp2_with fail
              go_ret
              exact ⟨rfl, HBW.out _ (HW4.out _ HB6.out)⟩
            | true =>
              obtain ⟨x, y, ho, hxy0, hxk0⟩ := HLM.out.2.2.2 HAL2.out (by have := HLN.out; have := HNE.out; omega) HR.out
              have HON : Hid (o = some (x, y)) := ho
              have hoS : o.isSome = true := by rw [HON.out]; rfl
              clear ho
              have HXY : Hid (x ≠ y) := hxy0
              have HXK : Hid (keptZ z x = keptZ z y) := hxk0
              clear hxy0 hxk0
              have HTX : Hid (∀ W, Below w4.heap.size w4 W → TxV W xa xn xc x ∧ TxV W ya yn yc y) := fun W hW => by have h := HT4.out W hW; rw [HON.out] at h; exact h
              have sa := str_bytes xc (HTX.out _ HB6.out).1.1
              have sb := str_bytes yc (HTX.out _ HB6.out).2.1
              have hxy : (x == y) = false := by rw [beq_eq_false_iff_ne]; exact HXY.out
              have hxz := HS4.out _ HB6.out
              have HOT : Hid (∀ W, Below w4.heap.size w4 W → Calls Tryd.prog 50 #[.agg #[.int .i64 z], .slice xa xn xc, .slice ya yn yc] W fun e w' => e = .returned (.bool true) ∧ Below W.heap.size W w') := fun W hW => by
                have h := ofTexts_any z xa xn xc x ya yn yc y W (HTX.out _ hW).1 (HTX.out _ hW).2 (HKB3.out _ (HW4.out _ hW)).1 (HKB3.out _ (HW4.out _ hW)).2 HZ.out
                rw [oft_true HXY.out HXK.out] at h; exact h
              clear HXY HXK HON
              try clear hnzb hnzc hnzd
              try clear hiz
              try clear HLM HAL HAL2 HR HNE HLN
              go_wp2_with fail
              refine (HOT.out _ HB6.out).mono ?_
              rintro e wz ⟨rfl, hbz⟩
              have HBZ : Hid (Below w4.heap.size w4 wz) := HB6.out.trans (hbz.mono HB6.out.size)
              clear hbz sa sb hxy hxz
              go_wp2_with fail
              go_ret
              exact ⟨rfl, HBW.out _ (HW4.out _ HBZ.out)⟩
          case neg =>
            have hnz : (n : Int) ≠ (qn : Int) := by omega
            have hnzb : ((n : Int) != (qn : Int)) = true := by simp; omega
            have hnzd : decide ((n : Int) = (qn : Int)) = false := by simp; omega
            have hnzi : ¬ (n : Int) = (qn : Int) := by omega
            have HON : Hid (o = none) := HLM.out.2.1 (by have := HLN.out; omega)
            have hoS : o.isSome = false := by rw [HON.out]; rfl
            have HX0 : Hid (xn = 0 ∧ yn = 0) := by
              obtain ⟨q1, q2⟩ := HT4.out _ (Below.refl _ _)
              rw [HON.out] at q1 q2
              exact ⟨q1.1.1.symm, q2.1.1.symm⟩
            have hx0 : ((xn : Int) == 0) = true := by rw [HX0.out.1]; rfl
            have hy0 : ((yn : Int) == 0) = true := by rw [HX0.out.2]; rfl
            have hx1 : (xn : Int) = 0 := by rw [HX0.out.1]; rfl
            have hy1 : (yn : Int) = 0 := by rw [HX0.out.2]; rfl
            clear hnq
            go_upto_region 11 with fail
            refine wp_region_held_drew (S := fun W => W.cell? ⟨w2.heap.size, 0, none⟩ = some (.int .i64 z)) (by kernel_rfl) (HS4.out _ (Below.drew HBR.out)) (fun hS => ?_)
            refine wpAnyH_take (i := 0) (v := ?_) rfl (by kernel_rfl) (by kernel_rfl) (by kernel_rfl) (fun _ _ _ h => h) (Or.inl ⟨by rfl, ?_⟩) (by assumption) ?_
            rotate_left
            · (intro w hSw; (try dsimp only at hSw); go_simp; try with_reducible rfl)
            simp only [Act.put, List.getElem_toArray, List.getElem_cons_zero, List.setIfInBounds_toArray, List.set_cons_zero, List.set_cons_succ]
            refine wpAnyH_take (i := 1) (v := ?_) rfl (by kernel_rfl) (by kernel_rfl) (by kernel_rfl) (fun _ _ _ h => h) (Or.inl ⟨by rfl, ?_⟩) (by assumption) ?_
            rotate_left
            · (intro w hSw; (try dsimp only at hSw); go_simp; try with_reducible rfl)
            simp only [Act.put, List.getElem_toArray, List.getElem_cons_zero, List.getElem_cons_succ, List.setIfInBounds_toArray, List.set_cons_zero, List.set_cons_succ]
            refine wpAnyH_take (i := 2) (v := ?_) rfl (by kernel_rfl) (by kernel_rfl) (by kernel_rfl) (fun _ _ _ h => h) (Or.inl ⟨by rfl, ?_⟩) (by assumption) ?_
            rotate_left
            · (intro w hSw; (try dsimp only at hSw); go_simp; try with_reducible rfl)
            simp only [Act.put, List.getElem_toArray, List.getElem_cons_zero, List.getElem_cons_succ, List.setIfInBounds_toArray, List.set_cons_zero, List.set_cons_succ]
            refine wpAnyH_take (i := 3) (v := ?_) rfl (by kernel_rfl) (by kernel_rfl) (by kernel_rfl) (fun _ _ _ h => h) (Or.inl ⟨by rfl, ?_⟩) (by assumption) ?_
            rotate_left
            · (intro w hSw; (try dsimp only at hSw); go_simp; try with_reducible rfl)
            simp only [Act.put, List.getElem_toArray, List.getElem_cons_zero, List.getElem_cons_succ, List.setIfInBounds_toArray, List.set_cons_zero, List.set_cons_succ]
            refine wpAnyH_take (i := 4) (v := ?_) rfl (by kernel_rfl) (by kernel_rfl) (by kernel_rfl) (fun _ _ _ h => h) (Or.inl ⟨by rfl, ?_⟩) (by assumption) ?_
            rotate_left
            · (intro w hSw; (try dsimp only at hSw); go_simp; try with_reducible rfl)
            simp only [Act.put, List.getElem_toArray, List.getElem_cons_zero, List.getElem_cons_succ, List.setIfInBounds_toArray, List.set_cons_zero, List.set_cons_succ]
            refine wpAnyH_take (i := 5) (v := ?_) rfl (by kernel_rfl) (by kernel_rfl) (by kernel_rfl) (fun _ _ _ h => h) (Or.inl ⟨by rfl, ?_⟩) (by assumption) ?_
            rotate_left
            · (intro w hSw; (try dsimp only at hSw); go_simp; try with_reducible rfl)
            simp only [Act.put, List.getElem_toArray, List.getElem_cons_zero, List.getElem_cons_succ, List.setIfInBounds_toArray, List.set_cons_zero, List.set_cons_succ]
            refine wpAnyH_take (i := 6) (v := ?_) rfl (by kernel_rfl) (by kernel_rfl) (by kernel_rfl) (fun _ _ _ h => h) (Or.inl ⟨by rfl, ?_⟩) (by assumption) ?_
            rotate_left
            · (intro w hSw; (try dsimp only at hSw); go_simp; try with_reducible rfl)
            simp only [Act.put, List.getElem_toArray, List.getElem_cons_zero, List.getElem_cons_succ, List.setIfInBounds_toArray, List.set_cons_zero, List.set_cons_succ]
            refine wpAnyH_take (i := 7) (v := ?_) rfl (by kernel_rfl) (by kernel_rfl) (by kernel_rfl) (fun _ _ _ h => h) (Or.inl ⟨by rfl, ?_⟩) (by assumption) ?_
            rotate_left
            · (intro w hSw; (try dsimp only at hSw); go_simp; try with_reducible rfl)
            simp only [Act.put, List.getElem_toArray, List.getElem_cons_zero, List.getElem_cons_succ, List.setIfInBounds_toArray, List.set_cons_zero, List.set_cons_succ]
            refine wpAnyH_take (i := 8) (v := ?_) rfl (by kernel_rfl) (by kernel_rfl) (by kernel_rfl) (fun _ _ _ h => h) (Or.inl ⟨by rfl, ?_⟩) (by assumption) ?_
            rotate_left
            · (intro w hSw; (try dsimp only at hSw); go_simp; try with_reducible rfl)
            simp only [Act.put, List.getElem_toArray, List.getElem_cons_zero, List.getElem_cons_succ, List.setIfInBounds_toArray, List.set_cons_zero, List.set_cons_succ]
            refine wpAnyH_take (i := 9) (v := undef) rfl (by kernel_rfl) (by kernel_rfl) (by kernel_rfl) (fun _ _ _ h => h) (Or.inr ⟨by rfl, rfl⟩) (by assumption) ?_
            simp only [Act.put, List.getElem_toArray, List.getElem_cons_zero, List.getElem_cons_succ, List.setIfInBounds_toArray, List.set_cons_zero, List.set_cons_succ]
            refine wpAnyH_take (i := 10) (v := undef) rfl (by kernel_rfl) (by kernel_rfl) (by kernel_rfl) (fun _ _ _ h => h) (Or.inr ⟨by rfl, rfl⟩) (by assumption) ?_
            simp only [Act.put, List.getElem_toArray, List.getElem_cons_zero, List.getElem_cons_succ, List.setIfInBounds_toArray, List.set_cons_zero, List.set_cons_succ]
            refine wpAnyH_take (i := 11) (v := undef) rfl (by kernel_rfl) (by kernel_rfl) (by kernel_rfl) (fun _ _ _ h => h) (Or.inr ⟨by rfl, rfl⟩) (by assumption) ?_
            simp only [Act.put, List.getElem_toArray, List.getElem_cons_zero, List.getElem_cons_succ, List.setIfInBounds_toArray, List.set_cons_zero, List.set_cons_succ]
            refine wpAnyH_take (i := 12) (v := undef) rfl (by kernel_rfl) (by kernel_rfl) (by kernel_rfl) (fun _ _ _ h => h) (Or.inr ⟨by rfl, rfl⟩) (by assumption) ?_
            simp only [Act.put, List.getElem_toArray, List.getElem_cons_zero, List.getElem_cons_succ, List.setIfInBounds_toArray, List.set_cons_zero, List.set_cons_succ]
            refine wpAnyH_take (i := 13) (v := undef) rfl (by kernel_rfl) (by kernel_rfl) (by kernel_rfl) (fun _ _ _ h => h) (Or.inr ⟨by rfl, rfl⟩) (by assumption) ?_
            simp only [Act.put, List.getElem_toArray, List.getElem_cons_zero, List.getElem_cons_succ, List.setIfInBounds_toArray, List.set_cons_zero, List.set_cons_succ]
            refine wpAnyH_take (i := 14) (v := undef) rfl (by kernel_rfl) (by kernel_rfl) (by kernel_rfl) (fun _ _ _ h => h) (Or.inr ⟨by rfl, rfl⟩) (by assumption) ?_
            simp only [Act.put, List.getElem_toArray, List.getElem_cons_zero, List.getElem_cons_succ, List.setIfInBounds_toArray, List.set_cons_zero, List.set_cons_succ]
            refine wpAnyH_take (i := 15) (v := undef) rfl (by kernel_rfl) (by kernel_rfl) (by kernel_rfl) (fun _ _ _ h => h) (Or.inr ⟨by rfl, rfl⟩) (by assumption) ?_
            simp only [Act.put, List.getElem_toArray, List.getElem_cons_zero, List.getElem_cons_succ, List.setIfInBounds_toArray, List.set_cons_zero, List.set_cons_succ]
            refine wpAnyH_take (i := 16) (v := ?_) rfl (by kernel_rfl) (by kernel_rfl) (by kernel_rfl) (fun _ _ _ h => h) (Or.inl ⟨by rfl, ?_⟩) (by assumption) ?_
            rotate_left
            · (intro w hSw; (try dsimp only at hSw); go_simp; try with_reducible rfl)
            simp only [Act.put, List.getElem_toArray, List.getElem_cons_zero, List.getElem_cons_succ, List.setIfInBounds_toArray, List.set_cons_zero, List.set_cons_succ]
            refine wpAnyH_done (by kernel_rfl) ?_ _
            clear hS
            clear hnz hnzb hnzd hnzi
            go_wp2_with fail
            go_ret
            exact ⟨rfl, HBW.out _ (HW4.out _ (Below.drew HBR.out))⟩
    case pos =>
      obtain ⟨hi1, rfl⟩ := hgo
      have hiz : (i : Int) < (n : Int) := by omega
      have HNQ : Hid (n = qn ∧ (bytesL ls).take i = (bytesL qs).take i) := HI2.out rfl
      obtain ⟨⟨pao, pn, pc, pbs⟩, HPF⟩ : ∃ p, Hid (ls[i]? = some p) := ⟨_, List.getElem?_eq_getElem (by have := HLN.out; omega)⟩
      obtain ⟨⟨rao, rn, rc, rbs⟩, HRF⟩ : ∃ p, Hid (qs[i]? = some p) := ⟨_, List.getElem?_eq_getElem (by have := HLN.out; have := HNQ.out; omega)⟩
      obtain ⟨pb, pf, e1, -, -⟩ := (HLV3.out _ (HW4.out _ HBR.out)).at i _ HPF.out
      obtain ⟨rb, rf, e2, -, -⟩ := (HQV3.out _ (HW4.out _ HBR.out)).at i _ HRF.out
      subst e1 e2
      have hiq : i < qn := by have := HNQ.out; omega
      have hiqz : (i : Int) < (qn : Int) := by omega
      have HS : Hid (∀ W, Below w4.heap.size w4 W → W.cell? ⟨pb, pf + i, none⟩ = some (.slice pao pn pc) ∧ (convert 36 9 (.slice pao pn pc)).run Tryd.prog W = .ok (.string ⟨pbs.toArray⟩) W ∧ W.cell? ⟨rb, rf + i, none⟩ = some (.slice rao rn rc) ∧ (convert 36 9 (.slice rao rn rc)).run Tryd.prog W = .ok (.string ⟨rbs.toArray⟩) W) := fun W hW => by
        obtain ⟨b1, f1, e1, d1, d2⟩ := (HLV3.out _ (HW4.out _ hW)).at i _ HPF.out
        obtain ⟨b2, f2, e2, d3, d4⟩ := (HQV3.out _ (HW4.out _ hW)).at i _ HRF.out
        cases e1
        cases e2
        exact ⟨d1, str_bytes pc d2, d3, str_bytes rc d4⟩
      have hinc : wrap64 ((i : Int) + 1) = ((i + 1 : Nat) : Int) := winc (n := n) (by omega) (by have := HN40.out; omega)
      go_upto_region 10 with fail
      refine wp_region_held_drew (S := fun W => W.cell? ⟨pb, pf + i, none⟩ = some (.slice pao pn pc) ∧ (convert 36 9 (.slice pao pn pc)).run Tryd.prog W = .ok (.string ⟨pbs.toArray⟩) W ∧ W.cell? ⟨rb, rf + i, none⟩ = some (.slice rao rn rc) ∧ (convert 36 9 (.slice rao rn rc)).run Tryd.prog W = .ok (.string ⟨rbs.toArray⟩) W) (by kernel_rfl) (HS.out _ (Below.drew HBR.out)) (fun hS => ?_)
      refine wpAnyH_take (i := 0) (v := ?_) rfl (by kernel_rfl) (by kernel_rfl) (by kernel_rfl) (fun _ _ _ h => h) (Or.inl ⟨by rfl, ?_⟩) (by assumption) ?_
      rotate_left
      · (intro w hSw; (try dsimp only at hSw); go_simp; try with_reducible rfl)
      simp only [Act.put, List.getElem_toArray, List.getElem_cons_zero, List.setIfInBounds_toArray, List.set_cons_zero, List.set_cons_succ]
      refine wpAnyH_take (i := 1) (v := ?_) rfl (by kernel_rfl) (by kernel_rfl) (by kernel_rfl) (fun _ _ _ h => h) (Or.inl ⟨by rfl, ?_⟩) (by assumption) ?_
      rotate_left
      · (intro w hSw; (try dsimp only at hSw); go_simp; try with_reducible rfl)
      simp only [Act.put, List.getElem_toArray, List.getElem_cons_zero, List.getElem_cons_succ, List.setIfInBounds_toArray, List.set_cons_zero, List.set_cons_succ]
      refine wpAnyH_take (i := 2) (v := ?_) rfl (by kernel_rfl) (by kernel_rfl) (by kernel_rfl) (fun _ _ _ h => h) (Or.inl ⟨by rfl, ?_⟩) (by assumption) ?_
      rotate_left
      · (intro w hSw; (try dsimp only at hSw); go_simp; try with_reducible rfl)
      simp only [Act.put, List.getElem_toArray, List.getElem_cons_zero, List.getElem_cons_succ, List.setIfInBounds_toArray, List.set_cons_zero, List.set_cons_succ]
      refine wpAnyH_take (i := 3) (v := ?_) rfl (by kernel_rfl) (by kernel_rfl) (by kernel_rfl) (fun _ _ _ h => h) (Or.inl ⟨by rfl, ?_⟩) (by assumption) ?_
      rotate_left
      · (intro w hSw; (try dsimp only at hSw); go_simp; try with_reducible rfl)
      simp only [Act.put, List.getElem_toArray, List.getElem_cons_zero, List.getElem_cons_succ, List.setIfInBounds_toArray, List.set_cons_zero, List.set_cons_succ]
      refine wpAnyH_take (i := 4) (v := ?_) rfl (by kernel_rfl) (by kernel_rfl) (by kernel_rfl) (fun _ _ _ h => h) (Or.inl ⟨by rfl, ?_⟩) (by assumption) ?_
      rotate_left
      · (intro w hSw; (try dsimp only at hSw); go_simp; try with_reducible rfl)
      simp only [Act.put, List.getElem_toArray, List.getElem_cons_zero, List.getElem_cons_succ, List.setIfInBounds_toArray, List.set_cons_zero, List.set_cons_succ]
      refine wpAnyH_take (i := 5) (v := ?_) rfl (by kernel_rfl) (by kernel_rfl) (by kernel_rfl) (fun _ _ _ h => h) (Or.inl ⟨by rfl, ?_⟩) (by assumption) ?_
      rotate_left
      · (intro w hSw; (try dsimp only at hSw); go_simp; try with_reducible rfl)
      simp only [Act.put, List.getElem_toArray, List.getElem_cons_zero, List.getElem_cons_succ, List.setIfInBounds_toArray, List.set_cons_zero, List.set_cons_succ]
      refine wpAnyH_take (i := 6) (v := ?_) rfl (by kernel_rfl) (by kernel_rfl) (by kernel_rfl) (fun _ _ _ h => h) (Or.inl ⟨by rfl, ?_⟩) (by assumption) ?_
      rotate_left
      · (intro w hSw; (try dsimp only at hSw); go_simp; try with_reducible rfl)
      simp only [Act.put, List.getElem_toArray, List.getElem_cons_zero, List.getElem_cons_succ, List.setIfInBounds_toArray, List.set_cons_zero, List.set_cons_succ]
      refine wpAnyH_take (i := 7) (v := ?_) rfl (by kernel_rfl) (by kernel_rfl) (by kernel_rfl) (fun _ _ _ h => h) (Or.inl ⟨by rfl, ?_⟩) (by assumption) ?_
      rotate_left
      · (intro w hSw; (try dsimp only at hSw); go_simp; try with_reducible rfl)
      simp only [Act.put, List.getElem_toArray, List.getElem_cons_zero, List.getElem_cons_succ, List.setIfInBounds_toArray, List.set_cons_zero, List.set_cons_succ]
      refine wpAnyH_take (i := 8) (v := ?_) rfl (by kernel_rfl) (by kernel_rfl) (by kernel_rfl) (fun _ _ _ h => h) (Or.inl ⟨by rfl, ?_⟩) (by assumption) ?_
      rotate_left
      · (intro w hSw; (try dsimp only at hSw); go_simp; try with_reducible rfl)
      simp only [Act.put, List.getElem_toArray, List.getElem_cons_zero, List.getElem_cons_succ, List.setIfInBounds_toArray, List.set_cons_zero, List.set_cons_succ]
      refine wpAnyH_take (i := 9) (v := ?_) rfl (by kernel_rfl) (by kernel_rfl) (by kernel_rfl) (fun _ _ _ h => h) (Or.inl ⟨by rfl, ?_⟩) (by assumption) ?_
      rotate_left
      · (intro w hSw; (try dsimp only at hSw); go_simp; try with_reducible rfl)
      simp only [Act.put, List.getElem_toArray, List.getElem_cons_zero, List.getElem_cons_succ, List.setIfInBounds_toArray, List.set_cons_zero, List.set_cons_succ]
      refine wpAnyH_take (i := 10) (v := ?_) rfl (by kernel_rfl) (by kernel_rfl) (by kernel_rfl) (fun _ _ _ h => h) (Or.inl ⟨by rfl, ?_⟩) (by assumption) ?_
      rotate_left
      · (intro w hSw; (try dsimp only at hSw); go_simp; try with_reducible rfl)
      simp only [Act.put, List.getElem_toArray, List.getElem_cons_zero, List.getElem_cons_succ, List.setIfInBounds_toArray, List.set_cons_zero, List.set_cons_succ]
      refine wpAnyH_take (i := 11) (v := ?_) rfl (by kernel_rfl) (by kernel_rfl) (by kernel_rfl) (fun _ _ _ h => h) (Or.inl ⟨by rfl, ?_⟩) (by assumption) ?_
      rotate_left
      · (intro w hSw; (try dsimp only at hSw); go_simp; try with_reducible rfl)
      simp only [Act.put, List.getElem_toArray, List.getElem_cons_zero, List.getElem_cons_succ, List.setIfInBounds_toArray, List.set_cons_zero, List.set_cons_succ]
      refine wpAnyH_done (by kernel_rfl) ?_ _
      clear hS
      go_wp2_with fail
      refine ⟨⟨i + 1, pbs == rbs, by rw [hinc], rfl, by omega, fun h => ?_, fun h => ?_, Below.drew HBR.out⟩, by rw [hinc]; simp [intOf]; omega⟩
      · rw [← HAL.out, decide_eq_true_eq] at h
        have h2 := congrArg (fun l : List (List UInt8) => l[i]?) h
        simp only [bytesL, List.getElem?_map, HPF.out, HRF.out, Option.map_some, Option.some.injEq] at h2
        rw [beq_iff_eq]; exact h2
      · rw [beq_iff_eq] at h
        refine ⟨HNQ.out.1, ?_⟩
        rw [List.take_add_one, List.take_add_one, HNQ.out.2]
        simp only [bytesL, List.getElem?_map, HPF.out, HRF.out, Option.map_some, h]
end Go.Proofs.YtaebpnednhkfhaaDoor
