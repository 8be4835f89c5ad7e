/-
  A right list is read as it was written: what the law SummaryBack answers, for any arguments.
-/
import Derived.Test.YtiimmknnlciljaaDoorSuE
import Derived.Test.YtiimmknnlciljaaDoorAloneW
namespace Go.Proofs.YtiimmknnlciljaaDoor
open Go.RowKit Go.Sort Go.Shelf
set_option linter.unusedSectionVars false
variable [Inhabited E] [DecidableEq E]
theorem eq_dig_z : ∀ w : World, (binOp .eql 32 (.agg (cellsOf Z32).toArray) (.agg (cellsOf Z32).toArray)).run Tryd.prog w = .ok (.bool true) w := fun w => by
  have := Sm.run_eq_dig Z32 Z32 (by simp [Z32]) (by simp [Z32]) w
  rw [beq_self_eq_true] at this; exact this
set_option maxRecDepth 100000 in
set_option maxHeartbeats 16000000 in
theorem back_walk (ao : Option Addr) (n c : Nat) (ts : List Tb) (z : Int) (w : World) (hT : TabsV w ao n ts) (hS : SmallT ts) (hnc : n ≤ c) (hc : c ≤ 9223372036854775807) (_ho : ao = none → c = 0) (hz : -9223372036854775808 ≤ z ∧ z ≤ 9223372036854775807) (hK : Sm.WW w 0 Sm.ks) (hz0 : 0 < w.heap.size) :
    Calls Tryd.prog 6 #[.slice ao n c, .int .i64 z] w fun e w' => e = .returned (.bool true) ∧ Below w.heap.size w w' := by
  have HK : Hid (∀ W, Below w.heap.size w W → Sm.WW W 0 Sm.ks ∧ 0 < W.heap.size) := fun W hW => ⟨hK.below hW hz0, by have := hW.size; omega⟩
  have HZ : Hid (-9223372036854775808 ≤ z ∧ z ≤ 9223372036854775807) := hz
  have C1 : Hid _ := shown_any w hK hz0
  have CF : Hid (∀ W, Below w.heap.size w W → Calls Tryd.prog 12 #[.slice ao n c, .int .i64 60] W fun e w' => ∃ v', e = .returned v' ∧ w'.ownsRow W.heap.size 51 36 v' (fewT 60 ts).length (flatT (fewT 60 ts)) ∧ Below W.heap.size W w') := fun W hW => few_any ao n c 60 ts W (hT.below hW (Nat.le_refl _)) hS (by omega) (by omega)
  obtain ⟨L, HL⟩ : ∃ L, Hid (fewT 60 ts = L) := ⟨_, rfl⟩
  have HSM : Hid (SmallT L ∧ L.length ≤ 60) := by
    show _ ∧ _
    rw [← HL.out]
    exact ⟨fewT_small 60 ts, by rw [fewT_len]; omega⟩
  rw [HL.out] at CF
  clear hT hS hnc hc hz hK hz0 HL
  go_enter Tryd.func6, Tryd.ntmps6
  go_wp2_with fail
  refine Calls.mono C1.out ?_
  rintro e w1 ⟨rfl, hb1⟩
  have HB1 : Hid (Below w.heap.size w w1) := hb1
  clear hb1 C1
  go_wp2_with fail
  refine (CF.out w1 HB1.out).mono ?_
  rintro e w2 ⟨v2, rfl, hown2, hb2⟩
  obtain ⟨a2, c2, rfl, hT2, -, -, -, -⟩ := own_tabsV hown2
  have HB2 : Hid (Below w.heap.size w w2) := HB1.out.trans (hb2.mono HB1.out.size)
  have HT2 : Hid (TabsV w2 a2 L.length L) := hT2
  obtain ⟨n2, HN2⟩ : ∃ n, Hid (L.length = n) := ⟨_, rfl⟩
  rw [HN2.out] at HT2 ⊢
  have hn60 : n2 ≤ 60 := by rw [← HN2.out]; exact HSM.out.2
  have C3 : Hid _ := bytes14_any a2 n2 c2 L w2 HT2.out HSM.out.1 (by omega)
  have CR : Hid (∀ W, Below w2.heap.size w2 W → Calls Tryd.prog 18 #[.slice a2 n2 c2] W fun e w' => e = .returned (.bool (rightTB L)) ∧ Below W.heap.size W w') := fun W hW => right14_any a2 n2 c2 L W (HT2.out.below hW (Nat.le_refl _)) HSM.out.1 (by omega)
  have CD : Hid (∀ W, Below w2.heap.size w2 W → Calls Tryd.prog 15 #[.int .i64 z, .slice a2 n2 c2] W fun e w' => e = .returned (.tuple #[.agg (cellsOf (digB z L)).toArray, .int .i64 (if rightTB L then 0 else 1)]) ∧ Below W.heap.size W w') := fun W hW => by
    have hw := HB2.out.trans (hW.mono HB2.out.size)
    exact digest14_any z a2 n2 c2 L W (HT2.out.below hW (Nat.le_refl _)) HSM.out.1 (by omega) (HK.out W hw).1 (HK.out W hw).2 HZ.out
  obtain ⟨r, HR⟩ : ∃ r, Hid (rightTB L = r) := ⟨_, rfl⟩
  obtain ⟨D, HD⟩ : ∃ D, Hid (digB z L = D) := ⟨_, rfl⟩
  have HDL : Hid (D.length = 32) := by show _ = _; rw [← HD.out]; exact digB_len z L
  have HDQ : Hid (D = if r then Sm.keptZ z (3 :: sumB L) else Z32) := by show _ = _; rw [← HD.out, ← HR.out]; rfl
  obtain ⟨er, HER⟩ : ∃ er : Int, Hid ((if r then (0 : Int) else 1) = er) := ⟨_, rfl⟩
  rw [HR.out] at C3 CR
  rw [HER.out] at C3
  rw [HR.out, HD.out, HER.out] at CD
  clear hown2 hT2 hb2 CF
  go_wp2_with fail
  refine Calls.mono C3.out ?_
  rintro e w3 ⟨v3, rfl, hyb, hb3⟩
  have HY3 : Hid (YB r w2.heap.size w3 v3 (sumB L)) := hyb
  have HB3 : Hid (Below w2.heap.size w2 w3) := hb3
  clear hyb hb3 C3
  go_wp2_with fail
  refine (CD.out w3 HB3.out).mono ?_
  rintro e w4 ⟨rfl, hb4⟩
  have HB4 : Hid (Below w2.heap.size w2 w4 ∧ Below w3.heap.size w3 w4) := ⟨HB3.out.trans (hb4.mono HB3.out.size), hb4⟩
  clear hb4 CD
  go_wp2_with (refine wpList_store_dig _ rfl (.tmp 8) (.tmp 25) rfl w4.heap.size rfl D HDL.out rfl _ (heap_alloc_new w4 _) rfl ?_)
  intro w5 hd5 hc5
  have HB5 : Hid (Below w2.heap.size w2 w5 ∧ Below w3.heap.size w3 w5) := by
    have h3 : Below w4.heap.size w4 w5 := (bel_alloc w4 _).trans (hc5.below (Nat.le_refl _) (by simp))
    exact ⟨HB4.out.1.trans (h3.mono HB4.out.1.size), HB4.out.2.trans (h3.mono HB4.out.2.size)⟩
  have HD5 : Hid (w5.heap[w4.heap.size]? = some (.cells (cellsOf D).toArray 32 (0, 0))) := hd5
  clear hd5 hc5
  go_wp2_with fail
  refine (CR.out w5 HB5.out.1).mono ?_
  rintro e w6 ⟨rfl, hb6⟩
  have HB6 : Hid (Below w2.heap.size w2 w6 ∧ Below w3.heap.size w3 w6) := ⟨HB5.out.1.trans (hb6.mono HB5.out.1.size), HB5.out.2.trans (hb6.mono HB5.out.2.size)⟩
  have HD6 : Hid (w6.heap[w4.heap.size]? = some (.cells (cellsOf D).toArray 32 (0, 0))) := (hb6.block _ (Array.getElem?_eq_some_iff.1 HD5.out).1).trans HD5.out
  clear hb6 CR HB4 HB5 HD5
  cases r with
  | false =>
    obtain rfl : D = Z32 := HDQ.out
    obtain rfl : er = 1 := HER.out.symm
    obtain rfl := HY3.out.2 rfl
    have hz2 := eq_dig_z
    have HIR : Hid ((Tryd.prog.info? 32).map (·.size) = some (cellsOf Z32).toArray.size) := dig_szA HDL.out
    obtain ⟨cr, HCR⟩ : ∃ c, Hid ((cellsOf Z32).toArray = c) := ⟨_, rfl⟩
    rw [HCR.out] at HD6 HIR hz2
    have heqz : ∀ w, (Op.equalIn 10000 32 (.agg cr) (.agg #[Value.int IntKind.u8 0, Value.int IntKind.u8 0, Value.int IntKind.u8 0, Value.int IntKind.u8 0, Value.int IntKind.u8 0, Value.int IntKind.u8 0, Value.int IntKind.u8 0, Value.int IntKind.u8 0, Value.int IntKind.u8 0, Value.int IntKind.u8 0, Value.int IntKind.u8 0, Value.int IntKind.u8 0, Value.int IntKind.u8 0, Value.int IntKind.u8 0, Value.int IntKind.u8 0, Value.int IntKind.u8 0, Value.int IntKind.u8 0, Value.int IntKind.u8 0, Value.int IntKind.u8 0, Value.int IntKind.u8 0, Value.int IntKind.u8 0, Value.int IntKind.u8 0, Value.int IntKind.u8 0, Value.int IntKind.u8 0, Value.int IntKind.u8 0, Value.int IntKind.u8 0, Value.int IntKind.u8 0, Value.int IntKind.u8 0, Value.int IntKind.u8 0, Value.int IntKind.u8 0, Value.int IntKind.u8 0, Value.int IntKind.u8 0])).run Tryd.prog w = .ok true w := fun w => by
      have h := run_equalIn_bytes (P := Tryd.prog) w 9998 32 5 32 Tryd.underlying32 Tryd.underlying5 Sm.sizeOf5 Z32 Z32 (by simp [Z32]) (by simp [Z32])
      rw [beq_self_eq_true] at h
      rw [← HCR.out]
      exact h
    clear hz2
    go_upto_region 6 with fail
    go_wp2_with (refine Sm.wpList_load_rowG (by rfl) 32 (.tmp 8) rfl w4.heap.size rfl 32 cr (0, 0) _ HD6.out Tryd.underlying32 rfl HIR.out ?_)
    go_wp2
    go_ret
    exact ⟨rfl, HB2.out.trans (HB6.out.1.mono HB2.out.size)⟩
  | true =>
    obtain rfl : er = 0 := HER.out.symm
    have hown3 := HY3.out.1 rfl
    obtain ⟨a3, c3, rfl, hby3, hn3, hlc3, hcm3, -, -⟩ := own_bytes hown3
    have hr := rightTB_iff.1 HR.out
    have hsl : (sumB L).length ≤ 200000 := by have := sumB_len hr; have := hr.1; omega
    obtain ⟨S, HSS⟩ : ∃ S, Hid (sumB L = S) := ⟨_, rfl⟩
    have hpy := parse_yes hr
    rw [HSS.out] at hby3 hlc3 hsl hpy HDQ
    have HBY : Hid (Bytes w3 a3 S.length S ∧ (a3 = none → c3 = 0) ∧ S.length ≤ c3 ∧ c3 ≤ 9223372036854775807) := ⟨hby3, hn3, hlc3, by unfold maxLen at hcm3; omega⟩
    have CP : Hid (Calls Tryd.prog 20 #[.slice a3 S.length c3] w6 fun e w' => ∃ v, e = .returned (.tuple #[v, .int .i64 0]) ∧ w'.ownsRow w6.heap.size 51 36 v L.length (flatT L) ∧ Below w6.heap.size w6 w') := by
      refine (parse_any a3 S.length c3 S w6 (bytes_kept HBY.out.1 HB6.out.2 (Nat.le_refl _)) HBY.out.2.1 HBY.out.2.2.1 HBY.out.2.2.2).mono ?_
      rintro e w' ⟨v, rfl, hpv, hb⟩
      have := hpv.1 hpy.1
      rw [hpy.2] at this
      exact ⟨v, by rw [hpy.1]; rfl, this, hb⟩
    have HSL : Hid (S.length ≤ 200000) := hsl
    rw [HSS.out]
    clear hown3 hby3 hn3 hlc3 hcm3 hr hsl hpy HY3
    go_wp2_with fail
    refine Calls.mono CP.out ?_
    rintro e w7 ⟨v7, rfl, hown7, hb7⟩
    obtain ⟨a7, c7, rfl, hT7, -, -, -, -⟩ := own_tabsV hown7
    have HB7 : Hid (Below w2.heap.size w2 w7 ∧ Below w3.heap.size w3 w7) := ⟨HB6.out.1.trans (hb7.mono HB6.out.1.size), HB6.out.2.trans (hb7.mono HB6.out.2.size)⟩
    have HD7 : Hid (w7.heap[w4.heap.size]? = some (.cells (cellsOf D).toArray 32 (0, 0))) := (hb7.block _ (Array.getElem?_eq_some_iff.1 HD6.out).1).trans HD6.out
    rw [HN2.out] at hT7 ⊢
    have CS : Hid _ := sameT_any a7 n2 c7 L a2 n2 c2 L w7 hT7 (HT2.out.below HB7.out.1 (Nat.le_refl _)) (by omega) (by omega)
    rw [sameTB_yes rfl] at CS
    clear hown7 hT7 hb7 CP HB6 HD6
    go_wp2_with fail
    refine Calls.mono CS.out ?_
    rintro e w8 ⟨rfl, hb8⟩
    have HB8 : Hid (Below w.heap.size w w8 ∧ Below w3.heap.size w3 w8) := ⟨(HB2.out.trans (HB7.out.1.mono HB2.out.size)).trans (hb8.mono (by have := HB2.out.size; have := HB7.out.1.size; omega)), HB7.out.2.trans (hb8.mono HB7.out.2.size)⟩
    have HD8 : Hid (w8.heap[w4.heap.size]? = some (.cells (cellsOf D).toArray 32 (0, 0))) := (hb8.block _ (Array.getElem?_eq_some_iff.1 HD7.out).1).trans HD7.out
    have HSR : Hid (∀ W, Below w8.heap.size w8 W → W.rangeAt w4.heap.size 0 (cellsOf D)) := fun W hW => dig_range ((hW.block _ (Array.getElem?_eq_some_iff.1 HD8.out).1).trans HD8.out)
    have HIN : Hid ((Tryd.prog.info? 32).map (·.size) = some (cellsOf D).length) := by show _ = _; rw [Sm.size24, cellsOf_length, HDL.out]
    have heq : ∀ w, (binOp .eql 32 (.agg (cellsOf D).toArray) (.agg (cellsOf D).toArray)).run Tryd.prog w = .ok (.bool true) w := fun w => by
      have := Sm.run_eq_dig D D HDL.out HDL.out w
      rw [beq_self_eq_true] at this; exact this
    have CT : Hid (∀ W, Below w8.heap.size w8 W → Calls Tryd.prog 28 #[.slice a3 S.length c3] W fun e w' => ∃ v, e = .returned v ∧ w'.ownsRow W.heap.size 5 1 v (3 :: S).length (cellsOf (3 :: S)) ∧ Below W.heap.size W w') := fun W hW => textS_any a3 S.length c3 S W (bytes_kept (bytes_kept HBY.out.1 HB8.out.2 (Nat.le_refl _)) hW (Nat.le_refl _)) HBY.out.2.1 (by have := HSL.out; omega)
    have CKP : Hid (∀ W v base, Below w8.heap.size w8 W → W.ownsRow base 5 1 v (3 :: S).length (cellsOf (3 :: S)) → Calls Tryd.prog 27 #[v, .int .i64 z] W fun e w' => e = .returned (.agg (cellsOf D).toArray) ∧ Below W.heap.size W w') := fun W v base hW hown => by
      have hw := HB8.out.1.trans (hW.mono HB8.out.1.size)
      have := Sm.kept_own v _ (3 :: S) z W base hown (by have := HSL.out; rw [List.length_cons]; omega) (HK.out W hw).1 (HK.out W hw).2 HZ.out
      rw [show D = Sm.keptZ z (3 :: S) from HDQ.out]
      exact this
    clear hb8 CS HB7 HD7
    go_upto_region 9 with fail
    refine wp_region_held_drew (S := fun W => W.rangeAt w4.heap.size 0 (cellsOf D)) (by kernel_rfl) (HSR.out _ (Below.drew (Below.refl _ _))) (fun hS => ?_)
    refine wpAnyH_take (i := 0) (v := ?_) rfl (by kernel_rfl) (by kernel_rfl) (by kernel_rfl) (fun _ _ _ h => h) (Or.inl ⟨by rfl, ?_⟩) (by assumption) ?_
    rotate_left
    · (intro w hSw; (try dsimp only at hSw); go_simp; try with_reducible rfl)
    simp only [Act.put, List.getElem_toArray, List.getElem_cons_zero, List.setIfInBounds_toArray, List.set_cons_zero, List.set_cons_succ]
    refine wpAnyH_take (i := 1) (v := ?_) rfl (by kernel_rfl) (by kernel_rfl) (by kernel_rfl) (fun _ _ _ h => h) (Or.inl ⟨by rfl, ?_⟩) (by assumption) ?_
    rotate_left
    · (intro w hSw; (try dsimp only at hSw); go_simp; try with_reducible rfl)
    simp only [Act.put, List.getElem_toArray, List.getElem_cons_zero, List.getElem_cons_succ, List.setIfInBounds_toArray, List.set_cons_zero, List.set_cons_succ]
    refine wpAnyH_take (i := 2) (v := ?_) rfl (by kernel_rfl) (by kernel_rfl) (by kernel_rfl) (fun _ _ _ h => h) (Or.inl ⟨by rfl, ?_⟩) (by assumption) ?_
    rotate_left
    · (intro w hSw; (try dsimp only at hSw); go_simp; try with_reducible rfl)
    simp only [Act.put, List.getElem_toArray, List.getElem_cons_zero, List.getElem_cons_succ, List.setIfInBounds_toArray, List.set_cons_zero, List.set_cons_succ]
    refine wpAnyH_take (i := 3) (v := ?_) rfl (by kernel_rfl) (by kernel_rfl) (by kernel_rfl) (fun _ _ _ h => h) (Or.inl ⟨by rfl, ?_⟩) (by assumption) ?_
    rotate_left
    · (intro w hSw; (try dsimp only at hSw); go_simp; try with_reducible rfl)
    simp only [Act.put, List.getElem_toArray, List.getElem_cons_zero, List.getElem_cons_succ, List.setIfInBounds_toArray, List.set_cons_zero, List.set_cons_succ]
    refine wpAnyH_take (i := 4) (v := ?_) rfl (by kernel_rfl) (by kernel_rfl) (by kernel_rfl) (fun _ _ _ h => h) (Or.inl ⟨by rfl, ?_⟩) (by assumption) ?_
    rotate_left
    · (intro w hSw; (try dsimp only at hSw); go_simp; try with_reducible rfl)
    simp only [Act.put, List.getElem_toArray, List.getElem_cons_zero, List.getElem_cons_succ, List.setIfInBounds_toArray, List.set_cons_zero, List.set_cons_succ]
    refine wpAnyH_take (i := 5) (v := ?_) rfl (by kernel_rfl) (by kernel_rfl) (by kernel_rfl) (fun _ _ _ h => h) (Or.inl ⟨by rfl, ?_⟩) (by assumption) ?_
    rotate_left
    · (intro w hSw; (try dsimp only at hSw); go_simp; try with_reducible rfl)
    simp only [Act.put, List.getElem_toArray, List.getElem_cons_zero, List.getElem_cons_succ, List.setIfInBounds_toArray, List.set_cons_zero, List.set_cons_succ]
    refine wpAnyH_take (i := 6) (v := ?_) rfl (by kernel_rfl) (by kernel_rfl) (by kernel_rfl) (fun _ _ _ h => h) (Or.inl ⟨by rfl, ?_⟩) (by assumption) ?_
    rotate_left
    · (intro w hSw; (try dsimp only at hSw); go_simp; try with_reducible rfl)
    simp only [Act.put, List.getElem_toArray, List.getElem_cons_zero, List.getElem_cons_succ, List.setIfInBounds_toArray, List.set_cons_zero, List.set_cons_succ]
    refine wpAnyH_take (i := 7) (v := ?_) rfl (by kernel_rfl) (by kernel_rfl) (by kernel_rfl) (fun _ _ _ h => h) (Or.inl ⟨by rfl, ?_⟩) (by assumption) ?_
    rotate_left
    · (intro w hSw; (try dsimp only at hSw); go_simp; try with_reducible rfl)
    simp only [Act.put, List.getElem_toArray, List.getElem_cons_zero, List.getElem_cons_succ, List.setIfInBounds_toArray, List.set_cons_zero, List.set_cons_succ]
    refine wpAnyH_take (i := 8) (v := ?_) rfl (by kernel_rfl) (by kernel_rfl) (by kernel_rfl) (fun _ _ _ h => h) (Or.inl ⟨by rfl, ?_⟩) (by assumption) ?_
    rotate_left
    · (intro w hSw; (try dsimp only at hSw); go_simp; try with_reducible rfl)
    simp only [Act.put, List.getElem_toArray, List.getElem_cons_zero, List.getElem_cons_succ, List.setIfInBounds_toArray, List.set_cons_zero, List.set_cons_succ]
    refine wpAnyH_take (i := 9) (v := ?_) rfl (by kernel_rfl) (by kernel_rfl) (by kernel_rfl) (fun _ _ _ h => h) (Or.inl ⟨by rfl, ?_⟩) (by assumption) ?_
    rotate_left
    · (intro w hSw; (try dsimp only at hSw); go_simp; try with_reducible rfl)
    simp only [Act.put, List.getElem_toArray, List.getElem_cons_zero, List.getElem_cons_succ, List.setIfInBounds_toArray, List.set_cons_zero, List.set_cons_succ]
    refine wpAnyH_take (i := 10) (v := ?_) rfl (by kernel_rfl) (by kernel_rfl) (by kernel_rfl) (fun _ _ _ h => h) (Or.inl ⟨by rfl, ?_⟩) (by assumption) ?_
    rotate_left
    · (intro w hSw; (try dsimp only at hSw); go_simp; try with_reducible rfl)
    simp only [Act.put, List.getElem_toArray, List.getElem_cons_zero, List.getElem_cons_succ, List.setIfInBounds_toArray, List.set_cons_zero, List.set_cons_succ]
    refine wpAnyH_take (i := 11) (v := ?_) rfl (by kernel_rfl) (by kernel_rfl) (by kernel_rfl) (fun _ _ _ h => h) (Or.inl ⟨by rfl, ?_⟩) (by assumption) ?_
    rotate_left
    · (intro w hSw; (try dsimp only at hSw); go_simp; try with_reducible rfl)
    simp only [Act.put, List.getElem_toArray, List.getElem_cons_zero, List.getElem_cons_succ, List.setIfInBounds_toArray, List.set_cons_zero, List.set_cons_succ]
    refine wpAnyH_take (i := 12) (v := ?_) rfl (by kernel_rfl) (by kernel_rfl) (by kernel_rfl) (fun _ _ _ h => h) (Or.inl ⟨by rfl, ?_⟩) (by assumption) ?_
    rotate_left
    · (intro w hSw; (try dsimp only at hSw); go_simp; try with_reducible rfl)
    simp only [Act.put, List.getElem_toArray, List.getElem_cons_zero, List.getElem_cons_succ, List.setIfInBounds_toArray, List.set_cons_zero, List.set_cons_succ]
    refine wpAnyH_take (i := 13) (v := ?_) rfl (by kernel_rfl) (by kernel_rfl) (by kernel_rfl) (fun _ _ _ h => h) (Or.inl ⟨by rfl, ?_⟩) (by assumption) ?_
    rotate_left
    · (intro w hSw; (try dsimp only at hSw); go_simp; try with_reducible rfl)
    simp only [Act.put, List.getElem_toArray, List.getElem_cons_zero, List.getElem_cons_succ, List.setIfInBounds_toArray, List.set_cons_zero, List.set_cons_succ]
    refine wpAnyH_take (i := 14) (v := ?_) rfl (by kernel_rfl) (by kernel_rfl) (by kernel_rfl) (fun _ _ _ h => h) (Or.inl ⟨by rfl, ?_⟩) (by assumption) ?_
    rotate_left
    · (intro w hSw; (try dsimp only at hSw); go_simp; try with_reducible rfl)
    simp only [Act.put, List.getElem_toArray, List.getElem_cons_zero, List.getElem_cons_succ, List.setIfInBounds_toArray, List.set_cons_zero, List.set_cons_succ]
    refine wpAnyH_take (i := 15) (v := ?_) rfl (by kernel_rfl) (by kernel_rfl) (by kernel_rfl) (fun _ _ _ h => h) (Or.inl ⟨by rfl, ?_⟩) (by assumption) ?_
    rotate_left
    · (intro w hSw; (try dsimp only at hSw); go_simp; try with_reducible rfl)
    simp only [Act.put, List.getElem_toArray, List.getElem_cons_zero, List.getElem_cons_succ, List.setIfInBounds_toArray, List.set_cons_zero, List.set_cons_succ]
    refine wpAnyH_take (i := 16) (v := ?_) rfl (by kernel_rfl) (by kernel_rfl) (by kernel_rfl) (fun _ _ _ h => h) (Or.inl ⟨by rfl, ?_⟩) (by assumption) ?_
    rotate_left
    · (intro w hSw; (try dsimp only at hSw); go_simp; try with_reducible rfl)
    simp only [Act.put, List.getElem_toArray, List.getElem_cons_zero, List.getElem_cons_succ, List.setIfInBounds_toArray, List.set_cons_zero, List.set_cons_succ]
    refine wpAnyH_take (i := 17) (v := .agg (cellsOf D).toArray) rfl (by kernel_rfl) (by kernel_rfl) (by kernel_rfl) (fun _ _ _ h => h) (yieldsIf_load_mid (by rfl) 32 (.tmp 8) rfl w4.heap.size 0 rfl (cellsOf D) _ (fun W h => h) Tryd.underlying32 rfl HIN.out) (by assumption) ?_
    simp only [Act.put, List.getElem_toArray, List.getElem_cons_zero, List.getElem_cons_succ, List.setIfInBounds_toArray, List.set_cons_zero, List.set_cons_succ]
    refine wpAnyH_take (i := 18) (v := ?_) rfl (by kernel_rfl) (by kernel_rfl) (by kernel_rfl) (fun _ _ _ h => h) (Or.inl ⟨by rfl, ?_⟩) (by assumption) ?_
    rotate_left
    · (intro w hSw; (try dsimp only at hSw); go_simp; try with_reducible rfl)
    simp only [Act.put, List.getElem_toArray, List.getElem_cons_zero, List.getElem_cons_succ, List.setIfInBounds_toArray, List.set_cons_zero, List.set_cons_succ]
    refine wpAnyH_take (i := 20) (v := ?_) rfl (by kernel_rfl) (by kernel_rfl) (by kernel_rfl) (fun _ _ _ h => h) (Or.inl ⟨by rfl, ?_⟩) (by assumption) ?_
    rotate_left
    · (intro w hSw; (try dsimp only at hSw); go_simp; try with_reducible rfl)
    simp only [Act.put, List.getElem_toArray, List.getElem_cons_zero, List.getElem_cons_succ, List.setIfInBounds_toArray, List.set_cons_zero, List.set_cons_succ]
    refine wpAnyH_ready (rs := [19]) (by kernel_rfl) (by simp) ?_
    refine AllReadyH.cons rfl (fun K hK => ?_) AllReadyH.nil
    go_simp
    refine (CT.out _ (Below.drew (Below.refl _ _))).mono ?_
    rintro e w9 ⟨v9, rfl, hown9, hb9⟩
    have HC9 : Hid (Below w8.heap.size w8 w9) := (Below.drew (Below.refl _ _)).trans hb9
    have CK9 : Hid _ := CKP.out w9 v9 _ HC9.out hown9
    clear hown9 hb9
    go_wp2_with fail
    refine hK.out _ _ (HSR.out _ HC9.out) (fun hHeld2 => ?_)
    clear hK K
    refine wpAnyH_ready (rs := [21]) (by kernel_rfl) (by simp) ?_
    refine AllReadyH.cons rfl (fun K hK => ?_) AllReadyH.nil
    go_simp
    refine Calls.mono CK9.out ?_
    rintro e w10 ⟨rfl, hb10⟩
    have HC10 : Hid (Below w8.heap.size w8 w10) := HC9.out.trans (hb10.mono HC9.out.size)
    clear hb10
    go_wp2_with fail
    refine hK.out _ _ (HSR.out _ HC10.out) (fun hHeld3 => ?_)
    clear hK K
    refine wpAnyH_take (i := 22) (v := ?_) rfl (by kernel_rfl) (by kernel_rfl) (by kernel_rfl) (fun _ _ _ h => h) (Or.inl ⟨by rfl, ?_⟩) (by assumption) ?_
    rotate_left
    · (intro w hSw; (try dsimp only at hSw); go_simp; try with_reducible rfl)
    simp only [Act.put, List.getElem_toArray, List.getElem_cons_zero, List.getElem_cons_succ, List.setIfInBounds_toArray, List.set_cons_zero, List.set_cons_succ]
    refine wpAnyH_take (i := 23) (v := ?_) rfl (by kernel_rfl) (by kernel_rfl) (by kernel_rfl) (fun _ _ _ h => h) (Or.inl ⟨by rfl, ?_⟩) (by assumption) ?_
    rotate_left
    · (intro w hSw; (try dsimp only at hSw); go_simp; try with_reducible rfl)
    simp only [Act.put, List.getElem_toArray, List.getElem_cons_zero, List.getElem_cons_succ, List.setIfInBounds_toArray, List.set_cons_zero, List.set_cons_succ]
    refine wpAnyH_take (i := 24) (v := ?_) rfl (by kernel_rfl) (by kernel_rfl) (by kernel_rfl) (fun _ _ _ h => h) (Or.inl ⟨by rfl, ?_⟩) (by assumption) ?_
    rotate_left
    · (intro w hSw; (try dsimp only at hSw); go_simp; try with_reducible rfl)
    simp only [Act.put, List.getElem_toArray, List.getElem_cons_zero, List.getElem_cons_succ, List.setIfInBounds_toArray, List.set_cons_zero, List.set_cons_succ]
    refine wpAnyH_done (by kernel_rfl) ?_ _
    go_wp2
    go_ret
    exact ⟨rfl, HB8.out.1.trans (HC10.out.mono HB8.out.1.size)⟩
end Go.Proofs.YtiimmknnlciljaaDoor
