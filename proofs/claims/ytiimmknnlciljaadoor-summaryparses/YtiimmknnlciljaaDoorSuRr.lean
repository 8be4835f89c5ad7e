/-
  What one and Right of the document answer: contracts over this translation.
-/
import Derived.Test.YtiimmknnlciljaaDoorSuRt
namespace Go.Proofs.YtiimmknnlciljaaDoor
open Go.RowKit Go.Sort Go.Shelf
set_option linter.unusedSectionVars false
variable [Inhabited E] [DecidableEq E]
theorem key_iff (s : ByteArray) : keyB s = true ↔ 1 ≤ s.size ∧ s.size ≤ 128 := by
  simp only [keyB, Bool.and_eq_true, decide_eq_true_eq]
set_option maxRecDepth 100000 in
set_option maxHeartbeats 4000000 in
theorem refOne_any (cells : Array Value) (lv ct : Int) (f l : ByteArray) (w : World) (h0 : cells[0]? = some (.int .i64 lv)) (h1 : cells[1]? = some (.int .i64 ct)) (h34 : cells[34]? = some (.string f)) (h35 : cells[35]? = some (.string l)) (hf : f.size ≤ 9223372036854775807) (hl : l.size ≤ 9223372036854775807) :
    Calls Tryd.prog 39 #[.agg cells] w fun e w' => e = .returned (.bool (oneCB lv ct f l)) ∧ Below w.heap.size w w' := by
  have c0 := box_keys w cells 51 0 _ h0
  have c1 := box_keys w cells 51 1 _ h1
  have c34 := box_keys w cells 51 34 _ h34
  have c35 := box_keys w cells 51 35 _ h35
  have HEQ : Hid ((f.toList == l.toList) = decide (f = l)) := eq_cmpS f l
  have HLE : Hid (Op.bytesLess f.toList l.toList = decide (cmpS f l < 0)) := less_cmpS f l
  obtain ⟨r, HR⟩ : ∃ r, Hid (oneCB lv ct f l = r) := ⟨_, rfl⟩
  rw [HR.out]
  have HF : Hid (¬ oneC lv ct f l → r = false) := fun h => by rw [← HR.out]; exact oneCB_no h
  have HT : Hid (oneC lv ct f l → r = true) := fun h => by rw [← HR.out]; exact oneCB_yes h
  have HK1 : Hid _ := key_iff f
  have HK2 : Hid _ := key_iff l
  clear h0 h1 h34 h35 HR
  go_enter Tryd.func39, Tryd.ntmps39
  by_cases a0 : lv < 0
  · obtain rfl := HF.out (fun h => by have := h.1; omega)
    go_wp2
    go_ret
    exact ⟨rfl, bel_alloc _ _⟩
  by_cases a1 : 4 ≤ lv
  · obtain rfl := HF.out (fun h => by have := h.2.1; omega)
    go_wp2
    go_ret
    exact ⟨rfl, bel_alloc _ _⟩
  by_cases a2 : ct < 1
  · obtain rfl := HF.out (fun h => by have := h.2.2.1; omega)
    go_wp2
    go_ret
    exact ⟨rfl, bel_alloc _ _⟩
  by_cases a3 : 64 < ct
  · obtain rfl := HF.out (fun h => by have := h.2.2.2.1; omega)
    go_wp2
    go_ret
    exact ⟨rfl, bel_alloc _ _⟩
  by_cases b1 : (f.size : Int) < 1
  · obtain rfl := HF.out (fun h => by have := HK1.out.1 h.2.2.2.2.1; omega)
    go_wp2
    go_ret
    exact ⟨rfl, bel_alloc _ _⟩
  by_cases b2 : (128 : Int) < (f.size : Int)
  · obtain rfl := HF.out (fun h => by have := HK1.out.1 h.2.2.2.2.1; omega)
    go_wp2
    go_ret
    exact ⟨rfl, bel_alloc _ _⟩
  by_cases b3 : (l.size : Int) < 1
  · obtain rfl := HF.out (fun h => by have := HK2.out.1 h.2.2.2.2.2.1; omega)
    go_wp2
    go_ret
    exact ⟨rfl, bel_alloc _ _⟩
  by_cases b4 : (128 : Int) < (l.size : Int)
  · obtain rfl := HF.out (fun h => by have := HK2.out.1 h.2.2.2.2.2.1; omega)
    go_wp2
    go_ret
    exact ⟨rfl, bel_alloc _ _⟩
  have HA : Hid (cmpS f l ≤ 0 ∧ (f = l ↔ ct = 1) → r = true) := fun h => HT.out ⟨by omega, by omega, by omega, by omega, HK1.out.2 ⟨by omega, by omega⟩, HK2.out.2 ⟨by omega, by omega⟩, h.1, h.2⟩
  have HB : Hid (¬ (cmpS f l ≤ 0 ∧ (f = l ↔ ct = 1)) → r = false) := fun h => HF.out fun h2 => h h2.2.2.2.2.2.2
  clear HT HF
  by_cases a4 : ct = 1
  · by_cases e : f = l
    · have e2 : (f.toList == l.toList) = true := by rw [HEQ.out]; exact decide_eq_true e
      obtain rfl := HA.out ⟨by rw [e]; have := cmpS_ord.self l; omega, ⟨fun _ => a4, fun _ => e⟩⟩
      have H4 : Hid (ct = 1) := a4
      subst a4
      clear e HEQ HLE HA HB
      go_wp2
      go_ret
      exact ⟨rfl, bel_alloc _ _⟩
    · have e2 : (f.toList == l.toList) = false := by rw [HEQ.out]; exact decide_eq_false e
      obtain rfl := HB.out (fun h => e (h.2.2 a4))
      subst a4
      clear e HEQ HLE HA HB
      go_wp2
      go_ret
      exact ⟨rfl, bel_alloc _ _⟩
  · have a5 : (ct == 1) = false := by simpa using a4
    have a6 : (1 : Int) < ct := by omega
    by_cases e : cmpS f l < 0
    · have e2 : Op.bytesLess f.toList l.toList = true := by rw [HLE.out]; exact decide_eq_true e
      obtain rfl := HA.out ⟨by omega, ⟨fun h => by rw [h] at e; have := cmpS_ord.self l; omega, fun h => absurd h a4⟩⟩
      clear e a4 HEQ HLE HA HB
      go_wp2
      go_ret
      exact ⟨rfl, bel_alloc _ _⟩
    · have e2 : Op.bytesLess f.toList l.toList = false := by rw [HLE.out]; exact decide_eq_false e
      obtain rfl := HB.out (fun h => a4 (h.2.1 (cmpS_eq.1 (by have := h.1; omega))))
      clear e a4 HEQ HLE HA HB
      go_wp2
      go_ret
      exact ⟨rfl, bel_alloc _ _⟩
set_option maxRecDepth 100000 in
set_option maxHeartbeats 8000000 in
theorem refRight14_any (ao : Option Addr) (n c : Nat) (ts : List Tb) (w : World) (hE : TabsV w ao n ts) (hsm : SmallT ts) (hbig : n ≤ 9223372036854775807) :
    Calls Tryd.prog 19 #[.slice ao n c] w fun e w' => e = .returned (.bool (rightTB ts)) ∧ Below w.heap.size w w' := by
  have HE : Hid _ := hE
  have HSM : Hid (SmallT ts) := hsm
  obtain ⟨r, HR⟩ : ∃ r, Hid (rightTB ts = r) := ⟨_, rfl⟩
  rw [HR.out]
  have HF : Hid (¬ rightT ts → r = false) := fun h => by rw [← HR.out]; exact rightTB_no h
  have HT : Hid (rightT ts → r = true) := fun h => by rw [← HR.out]; exact rightTB_iff.2 h
  clear hE hsm HR
  go_enter Tryd.func19, Tryd.ntmps19
  by_cases h512 : (512 : Int) < (n : Int)
  · obtain rfl := HF.out (fun h => by have := h.1; rw [HE.out.1] at this; omega)
    go_wp2
    go_ret
    exact ⟨rfl, Below.refl _ _⟩
  have hn5 : n ≤ 512 := by omega
  go_wp2
  go_loopw [3, 4] (fun x _ wr => ∃ i : Nat, x = .int .i64 i ∧ i ≤ n ∧ Hid (∀ j, j < i → okT ts j) ∧ Below w.heap.size w wr) (fun x _ _ => n - (intOf x).toNat)
  case atStart => exact ⟨0, rfl, by omega, (fun j hj => absurd hj (by omega)), Below.refl _ _⟩
  case round =>
    obtain ⟨i, rfl, hin, HS, hbel⟩ := hrel
    by_cases hlt : i < n
    · have hltz : (i : Int) < (n : Int) := by omega
      obtain ⟨b, off, hao, hEn⟩ := HE.out.2 (by omega)
      have hln := HE.out.1
      obtain ⟨x, HX⟩ : ∃ x, Hid (ts.getD i zT = x) := ⟨_, rfl⟩
      have hTr := hEn.below hbel (Nat.le_refl _)
      have HRX : Hid (wr.rangeAt b (off + i * 36) (encT x)) := tabs_range hTr i (by omega) HX.out
      obtain ⟨s0, s1⟩ := smallT_at HSM.out i (by omega) HX.out
      subst hao
      have HTR : Hid (Tabs wr b off ts) := hTr
      have HLN : Hid (ts.length = n) := hln
      have HBE : Hid (Below w.heap.size w wr) := hbel
      have HP0 : Hid (Calls Tryd.prog 39 #[.agg (encT x).toArray] wr fun e w' => e = .returned (.bool (oneCB x.lv x.ct x.first x.last)) ∧ Below wr.heap.size wr w') := refOne_any _ _ _ _ _ wr (by simpa using encT_0 x) (by simpa using encT_1 x) (by simpa using encT_34 x) (by simpa using encT_35 x) s0 s1
      clear hEn hTr hln hbel s0 s1
      go_wp2_with (refine wpList_load_mid rfl 51 (.tmp 16) rfl b (off + i * 36) rfl (encT x) _ HRX.out Tryd.underlying51 rfl (sizeT x) ?_)
      refine HP0.out.mono ?_
      rintro e w1 ⟨rfl, hb1⟩
      have HB1 : Hid (Below w.heap.size w w1) := HBE.out.trans (hb1.mono HBE.out.size)
      have HT1 : Hid (Tabs w1 b off ts) := HTR.out.below hb1 (Nat.le_refl _)
      obtain ⟨k1, HK1⟩ : ∃ k, Hid (oneCB x.lv x.ct x.first x.last = k) := ⟨_, rfl⟩
      rw [HK1.out]
      have HO : Hid (oneT x ↔ k1 = true) := oneB_T HK1.out
      clear HP0 HK1 hb1 HRX HTR
      cases k1 with
      | false =>
        have hr : r = false := HF.out (fun h => by have h5 := (h.2 i (by rw [HLN.out]; exact hlt)).1; rw [HX.out] at h5; exact absurd (HO.out.1 h5) (by decide))
        subst hr
        go_wp2
        go_ret
        exact ⟨rfl, HB1.out⟩
      | true =>
        have hone : oneT x := HO.out.2 rfl
        have HONE : Hid (oneT x) := hone
        by_cases hi0 : i = 0
        · subst hi0
          clear hone
          go_wp2_with fail
          go_quiet (fail)
          go_wp2
          go_roundw
          case rel => exact ⟨1, by go_num, by omega, right_step HS.out ⟨by rw [HX.out]; exact HONE.out, fun h => absurd h (by omega)⟩, bel_drewN HB1.out nq⟩
          case measure => simp [intOf]; omega
        · obtain ⟨m, rfl⟩ : ∃ m, i = m + 1 := ⟨i - 1, by omega⟩
          obtain ⟨y, HY⟩ : ∃ y, Hid (ts.getD m zT = y) := ⟨_, rfl⟩
          obtain ⟨x0, -, x34, -⟩ := range_four (tabs_range HT1.out (m + 1) (by rw [HLN.out]; exact hlt) HX.out)
          obtain ⟨y0, -, -, y35⟩ := range_four (tabs_range HT1.out m (by rw [HLN.out]; omega) HY.out)
          have hx0 := hone.1
          obtain ⟨a, HA⟩ : ∃ a, Hid (x.lv = a) := ⟨_, rfl⟩
          obtain ⟨q, HQ⟩ : ∃ a, Hid (y.lv = a) := ⟨_, rfl⟩
          obtain ⟨f, HFF⟩ : ∃ a, Hid (x.first = a) := ⟨_, rfl⟩
          obtain ⟨l, HLL⟩ : ∃ a, Hid (y.last = a) := ⟨_, rfl⟩
          rw [HA.out] at x0 hx0
          rw [HQ.out] at y0
          rw [HFF.out] at x34
          rw [HLL.out] at y35
          have HNX : Hid (nextT y x ↔ nextC q l a f) := by rw [← HA.out, ← HQ.out, ← HFF.out, ← HLL.out]; exact Iff.rfl
          have HNO : Hid (¬ nextC q l a f → r = false) := fun h => HF.out (fun h6 => by
            have h5 := (h6.2 (m + 1) (by rw [HLN.out]; exact hlt)).2 (by omega)
            rw [Nat.add_sub_cancel, HX.out, HY.out] at h5
            exact h (HNX.out.1 h5))
          have HYES : Hid (nextC q l a f → ∀ j, j < m + 1 + 1 → okT ts j) := fun h => right_step HS.out ⟨by rw [HX.out]; exact HONE.out, fun _ => by rw [Nat.add_sub_cancel, HX.out, HY.out]; exact HNX.out.2 h⟩
          have hm1 : (m : Int) + 1 - 1 = (m : Int) := by omega
          have hm2 : (m : Int) < (n : Int) := by omega
          have hm3 : (0 : Int) < (m : Int) + 1 := by omega
          have hm0 : (0 : Int) ≤ (m : Int) := by omega
          have hwm : IntKind.i64.wrap (m : Int) = (m : Int) := by rw [IntKind.wrap_i64]; omega
          have HX0 : Hid (0 ≤ a) := hx0
          clear hone hx0 HNX HF HT HO HS HX HY HA HQ HFF HLL HLN
          by_cases d1 : a < q
          · have hr : r = false := HNO.out (fun h => by unfold nextC at h; rw [if_neg (by omega)] at h; omega)
            subst hr
            clear HYES HNO
            go_wp2_with fail
            go_quiet (fail)
            go_wp2
            go_ret
            exact ⟨rfl, bel_drewN HB1.out nq⟩
          · by_cases d2 : a = q
            · subst d2
              have d3 : (a == a) = true := by simp
              by_cases d4 : 0 < a
              · rcases le_cases f l with ⟨e1, e3⟩ | ⟨e1, e2, e3⟩ | ⟨e1, e2, e3⟩
                · have hr : r = false := HNO.out (fun h => by
                    unfold nextC at h; rw [if_pos rfl] at h
                    have h7 := of_decide_eq_true e3
                    rcases h with h | h
                    · omega
                    · have := cmpS_ord.anti l f; omega)
                  subst hr
                  clear HYES HNO e3
                  go_wp2_with fail
                  go_quiet (fail)
                  go_wp2
                  go_ret
                  exact ⟨rfl, bel_drewN HB1.out nq⟩
                · have hr : r = false := HNO.out (fun h => by
                    unfold nextC at h; rw [if_pos rfl] at h
                    have h7 := of_decide_eq_true e3
                    rcases h with h | h
                    · omega
                    · have := cmpS_ord.anti l f; omega)
                  subst hr
                  clear HYES HNO e3
                  go_wp2_with fail
                  go_quiet (fail)
                  go_wp2
                  go_ret
                  exact ⟨rfl, bel_drewN HB1.out nq⟩
                · have HY2 : Hid (∀ j, j < m + 1 + 1 → okT ts j) := HYES.out (by
                    unfold nextC; rw [if_pos rfl]
                    have h7 := of_decide_eq_false e3
                    exact .inr (by have := cmpS_ord.anti l f; omega))
                  clear HYES HNO e3
                  go_wp2_with fail
                  go_quiet (fail)
                  go_wp2
                  go_roundw
                  case rel => exact ⟨m + 1 + 1, by go_num, by omega, HY2.out, bel_drewN HB1.out nq⟩
                  case measure => simp [intOf]; omega
              · have HY2 : Hid (∀ j, j < m + 1 + 1 → okT ts j) := HYES.out (by
                  unfold nextC; rw [if_pos rfl]
                  exact .inl (by have := HX0.out; omega))
                have hd4 : decide (0 < a) = false := decide_eq_false d4
                clear HYES HNO d4
                go_wp2_with fail
                go_quiet (fail)
                go_wp2
                go_roundw
                case rel => exact ⟨m + 1 + 1, by go_num, by omega, HY2.out, bel_drewN HB1.out nq⟩
                case measure => simp [intOf]; omega
            · have d3 : (a == q) = false := by simpa using d2
              have HY2 : Hid (∀ j, j < m + 1 + 1 → okT ts j) := HYES.out (by
                unfold nextC; rw [if_neg (fun h => d2 h.symm)]; omega)
              have hd1 : decide (a < q) = false := decide_eq_false d1
              clear HYES HNO d2 d1
              go_wp2_with fail
              go_quiet (fail)
              go_wp2
              go_roundw
              case rel => exact ⟨m + 1 + 1, by go_num, by omega, HY2.out, bel_drewN HB1.out nq⟩
              case measure => simp [intOf]; omega
    · have hltz : ¬ (i : Int) < (n : Int) := by omega
      have hr : r = true := HT.out ⟨by rw [HE.out.1]; exact hn5, fun j hj => HS.out j (by rw [HE.out.1] at hj; omega)⟩
      subst hr
      go_wp2
      go_ret
      exact ⟨rfl, hbel⟩
end Go.Proofs.YtiimmknnlciljaaDoor
