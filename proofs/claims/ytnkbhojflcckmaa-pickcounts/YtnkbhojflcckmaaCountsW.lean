/-
  PickCounts: its walk.
-/
import Derived.Test.YtnkbhojflcckmaaAloneW
import Derived.Test.YtnkbhojflcckmaaPkAA
namespace Go.Proofs.Ytnkbhojflcckmaa
open Go.RowKit
set_option linter.unusedSectionVars false
theorem cnt_u8 (l i : Nat) (hl : l < 4) (_hi : i < 50) : (IntKind.u8.wrap (l : Int) = (l : Int)) ∧ IntKind.u8.wrap (97 + (l : Int)) = ((UInt8.ofNat (97 + l)).toNat : Int) ∧ IntKind.u8.wrap (i : Int) = ((UInt8.ofNat i).toNat : Int) := by
  refine ⟨?_, ?_, ?_⟩
  · rw [IntKind.wrap_u8]; omega
  · rw [IntKind.wrap_u8, UInt8.toNat_ofNat']; omega
  · rw [IntKind.wrap_u8, UInt8.toNat_ofNat']; omega
set_option maxRecDepth 100000 in
set_option maxHeartbeats 2500000 in
theorem counts_walk (a b c d : Int) (w : World) : Calls Try.prog 8 #[.int .i64 a, .int .i64 b, .int .i64 c, .int .i64 d] w fun e w' => e = .returned (.bool true) ∧ Below w.heap.size w w' := by
  have C0 : Hid _ := shown_any w
  obtain ⟨ra, n0, ha1, -, ha3, ha4⟩ := bit_rem a 50 (by omega)
  obtain ⟨rb, n1, hb1, -, hb3, hb4⟩ := bit_rem b 50 (by omega)
  obtain ⟨rc, n2, hc1, -, hc3, hc4⟩ := bit_rem c 50 (by omega)
  obtain ⟨rd, n3, hd1, -, hd3, hd4⟩ := bit_rem d 50 (by omega)
  have hb3a : (ra : Int).tmod 50 = (n0 : Int) := ha3
  have hb3b : (rb : Int).tmod 50 = (n1 : Int) := hb3
  have hb3c : (rc : Int).tmod 50 = (n2 : Int) := hc3
  have hb3d : (rd : Int).tmod 50 = (n3 : Int) := hd3
  have HNB : Hid (n0 < 50 ∧ n1 < 50 ∧ n2 < 50 ∧ n3 < 50) := ⟨ha4, hb4, hc4, hd4⟩
  clear ha3 ha4 hb3 hb4 hc3 hc4 hd3 hd4
  go_enter Try.func8, Try.ntmps8
  go_wp2_with fail
  refine Calls.mono C0.out ?_
  rintro e w1 ⟨rfl, hbw1⟩
  have HB1 : Hid (Below w.heap.size w w1) := hbw1
  clear hbw1 C0
  go_upto_region 3 with fail
  clear ha1 hb1 hc1 hd1 hb3a hb3b hb3c hb3d
  obtain ⟨W, HW⟩ : ∃ W, Hid (w1.alloc (.cells #[.int .i64 (n0 : Int), .int .i64 (n1 : Int), .int .i64 (n2 : Int), .int .i64 (n3 : Int)] 3) = W) := ⟨_, rfl⟩
  have HC : Hid (∀ V, Below W.heap.size W V → V.cell? ⟨w1.heap.size, 0, none⟩ = some (.int .i64 (n0 : Int)) ∧ V.cell? ⟨w1.heap.size, 1, none⟩ = some (.int .i64 (n1 : Int)) ∧ V.cell? ⟨w1.heap.size, 2, none⟩ = some (.int .i64 (n2 : Int)) ∧ V.cell? ⟨w1.heap.size, 3, none⟩ = some (.int .i64 (n3 : Int))) := fun V hV => by
    have hr : V.heap[w1.heap.size]? = some (.cells #[.int .i64 (n0 : Int), .int .i64 (n1 : Int), .int .i64 (n2 : Int), .int .i64 (n3 : Int)] 3 (0, 0)) := by
      rw [hV.block _ (by rw [← HW.out]; simp), ← HW.out]; exact heap_alloc_new w1 _
    exact ⟨by rw [cell_of_row _ _ _ _ _ _ hr]; rfl, by rw [cell_of_row _ _ _ _ _ _ hr]; rfl, by rw [cell_of_row _ _ _ _ _ _ hr]; rfl, by rw [cell_of_row _ _ _ _ _ _ hr]; rfl⟩
  have HBW : Hid (Below w.heap.size w W) := by show Below _ _ _; rw [← HW.out]; exact HB1.out.alloc HB1.out.size _
  rw [HW.out]
  obtain ⟨N, HN⟩ : ∃ N, Hid ([n0, n1, n2, n3] = N) := ⟨_, rfl⟩
  have HCN : Hid (∀ V k, Below W.heap.size W V → k < 4 → V.cell? ⟨w1.heap.size, k, none⟩ = some (.int .i64 ((N.getD k 0 : Nat) : Int)) ∧ N.getD k 0 < 50) := fun V k hV hk => by
    obtain ⟨h0, h1, h2, h3⟩ := HC.out V hV
    have hb := HNB.out
    rw [← HN.out]
    match k, hk with
    | 0, _ => exact ⟨h0, hb.1⟩
    | 1, _ => exact ⟨h1, hb.2.1⟩
    | 2, _ => exact ⟨h2, hb.2.2.1⟩
    | 3, _ => exact ⟨h3, hb.2.2.2⟩
  go_wp2
  go_loopw [11, 12, 13, 14] (fun o x _ _ wr => ∃ k : Nat, x = .int .i64 k ∧ k ≤ 4 ∧ wr.ownsRow W.heap.size 32 36 o (lstC N k).length (flatT (lstC N k)) ∧ (lstC N k).length ≤ k * 50 ∧ Below W.heap.size W wr) (fun _ x _ _ _ => 4 - (intOf x).toNat)
  case atStart => exact ⟨0, rfl, by omega, World.ownsRow_nil _ _ _ _, by simp [lstC], Below.refl _ _⟩
  case round =>
    obtain ⟨k, rfl, hk4, hown, hlk, hbel⟩ := hrel
    have HLK : Hid ((lstC N k).length ≤ k * 50) := hlk
    have HOO : Hid (wr.ownsRow W.heap.size 32 36 u11 (lstC N k).length (flatT (lstC N k)) ∧ Below W.heap.size W wr) := And.intro hown hbel
    clear hown hbel hlk
    by_cases hk : k < 4
    · have hkz : (k : Int) < 4 := by omega
      obtain ⟨A, HA⟩ : ∃ A, Hid (lstC N k = A) := ⟨_, rfl⟩
      obtain ⟨m, HM⟩ : ∃ m, Hid (N.getD k 0 = m) := ⟨_, rfl⟩
      have HSU : Hid (lstC N (k + 1) = A ++ rowC k m) := by show _ = _; rw [lstC_succ, HA.out, HM.out]
      have HCM : Hid (∀ V, Below W.heap.size W V → V.cell? ⟨w1.heap.size, k, none⟩ = some (.int .i64 (m : Int)) ∧ m < 50) := fun V hV => by have := HCN.out V k hV hk; rwa [HM.out] at this
      rw [HA.out] at HOO HLK
      obtain ⟨wo, hwo⟩ : ∃ Z, Z = wr := ⟨_, rfl⟩
      subst hwo
      go_wp2
      go_loopw [11, 13, 14] (fun o x _ wr => ∃ q : Nat, x = .int .i64 q ∧ q ≤ m ∧ wr.ownsRow W.heap.size 32 36 o (A ++ rowC k q).length (flatT (A ++ rowC k q)) ∧ Below W.heap.size W wr) (fun _ x _ _ => m - (intOf x).toNat)
      case atStart => exact ⟨0, rfl, by omega, by rw [show A ++ rowC k 0 = A by simp [rowC]]; exact HOO.out.1, HOO.out.2⟩
      case round =>
        obtain ⟨q, rfl, hqm, hown, hbel⟩ := hrel
        have HOW : Hid (wr.ownsRow W.heap.size 32 36 u11 (A ++ rowC k q).length (flatT (A ++ rowC k q)) ∧ Below W.heap.size W wr) := And.intro hown hbel
        obtain ⟨c0, hm50⟩ := HCM.out wr hbel
        clear hown hbel
        by_cases hq : q < m
        · have hqz : (q : Int) < (m : Int) := by omega
          have hq5 : (q : Int) < 51 := by omega
          obtain ⟨u1, u2, u3⟩ := cnt_u8 k q hk (by omega)
          have HRS : Hid (rowC k (q + 1) = rowC k q ++ [cT k q]) := rowC_succ k q
          have HDL : Hid ((A ++ rowC k q).length ≤ 300) := by show _ ≤ _; rw [List.length_append, rowC_len]; have := HLK.out; omega
          obtain ⟨D, HD⟩ : ∃ D, Hid (A ++ rowC k q = D) := ⟨_, rfl⟩
          have HDN : Hid (A ++ rowC k (q + 1) = D ++ [cT k q]) := by show _ = _; rw [HRS.out, ← List.append_assoc, HD.out]
          rw [HD.out] at HOW HDL
          obtain ⟨x1, HX1⟩ : ∃ x, Hid (UInt8.ofNat (97 + k) = x) := ⟨_, rfl⟩
          obtain ⟨x2, HX2⟩ : ∃ x, Hid (UInt8.ofNat q = x) := ⟨_, rfl⟩
          rw [HX1.out] at u2
          rw [HX2.out] at u3
          have HKY : Hid (keyB k q = ⟨#[x1, x2]⟩) := by show _ = _; unfold keyB; rw [HX1.out, HX2.out]
          have hst : (convert 39 9 (.slice (some ⟨wr.heap.size, 0, none⟩) 2 2)).run Try.prog (wr.alloc (.cells #[.int .u8 (x1.toNat : Int), .int .u8 (x2.toNat : Int)] 5)) = .ok (.string ⟨#[x1, x2]⟩) (wr.alloc (.cells #[.int .u8 (x1.toNat : Int), .int .u8 (x2.toNat : Int)] 5)) := str_bytes 2 (bytes_two wr x1 x2)
          obtain ⟨ky, HKN⟩ : ∃ s, Hid ((⟨#[x1, x2]⟩ : ByteArray) = s) := ⟨_, rfl⟩
          rw [HKN.out] at hst HKY
          obtain ⟨W6, HW6⟩ : ∃ Z, Hid (wr.alloc (.cells #[.int .u8 (x1.toNat : Int), .int .u8 (x2.toNat : Int)] 5) = Z) := ⟨_, rfl⟩
          have HB6 : Hid (Below wr.heap.size wr W6) := by show Below _ _ _; rw [← HW6.out]; exact bel_alloc _ _
          have HB0 : Hid _ := built4 (k : Int) 1 ky ky
          have HCT : Hid (cT k q = mkT (k : Int) 1 ky ky) := by show _ = _; unfold cT; rw [HKY.out]
          obtain ⟨y, HY⟩ : ∃ y, Hid (mkT (k : Int) 1 ky ky = y) := ⟨_, rfl⟩
          rw [HY.out] at HB0 HCT
          rw [HCT.out] at HDN
          have HO5 : Hid ((W6.alloc (.cells (encT y).toArray 32)).ownsRow W.heap.size 32 36 u11 D.length (flatT D)) := (own_below HOW.out.1 HB6.out (Nat.le_refl _)).alloc _
          have HBY : Hid (Below W.heap.size W W6) := HOW.out.2.trans (HB6.out.mono HOW.out.2.size)
          have HS5 : Hid (W.heap.size ≤ (W6.alloc (.cells (encT y).toArray 32)).heap.size) := by show _ ≤ _; have := HBY.out.size; simp; omega
          go_upto_region 11 with fail
          clear c0 hm50 hst u1 u2 u3
          rw [HW6.out]
          go_wp2_with (first | (refine wpList_build_to rfl 32 _ rfl (encT y).toArray ((by go_simp : Try.prog.built 32 _ = Try.prog.built 32 [(0, .int .i64 (k : Int)), (1, .int .i64 1), (3, .string ky), (4, .string ky)]).trans HB0.out) ?_) | (refine wpList_build_tab _ rfl (.tmp 57) rfl y rfl ?_) | (at_builtin; refine wpList_append_tabs _ rfl (.tmp 53) (.tmp 58) rfl W.heap.size _ D.length D rfl HO5.out HS5.out _ 1 1 [y] rfl (tabsV_one W6 y) (fun h => by cases h) (by have := HDL.out; omega) ?_))
          intro v' w6 hown6 hb6
          have HNR : Hid (w6.ownsRow W.heap.size 32 36 v' (D ++ [y]).length (flatT (D ++ [y])) ∧ Below W.heap.size W w6) := And.intro (by simpa using hown6) ((HBY.out.alloc HBY.out.size _).trans hb6)
          clear hown6 hb6
          go_wp2
          go_roundw
          case rel => exact ⟨q + 1, by go_num, by omega, by rw [HDN.out]; exact HNR.out.1, HNR.out.2⟩
          case measure => simp [intOf]; omega
        · have hqz : ¬ (q : Int) < (m : Int) := by omega
          obtain rfl : q = m := by omega
          have HNX : Hid (wr.ownsRow W.heap.size 32 36 u11 (lstC N (k + 1)).length (flatT (lstC N (k + 1)))) := by show World.ownsRow _ _ _ _ _ _ _; rw [HSU.out]; exact HOW.out.1
          have HNL : Hid ((lstC N (k + 1)).length ≤ (k + 1) * 50) := by show _ ≤ _; rw [HSU.out, List.length_append, rowC_len]; have := HLK.out; omega
          go_wp2
          go_roundw
          case rel => exact ⟨k + 1, by go_num, by omega, HNX.out, HNL.out, HOW.out.2⟩
          case measure => simp [intOf]; omega
    · have hkz : ¬ (k : Int) < 4 := by omega
      obtain rfl : k = 4 := by omega
      have HPC : Hid _ := pickF_counts N
      have HMA : Hid (∀ f, pickF (lstC N 4) = some f → (inL (lstC N 4) f).length = if f = 0 then N.getD 0 0 else 1) := fun f h => counts_math N h
      have HCT : Hid (∀ m : Nat, m < 4 → cnt (lstC N 4) m = N.getD m 0) := fun m h => by have := cnt_lstC N m 4; rw [if_pos h] at this; exact this
      obtain ⟨T, HT⟩ : ∃ T, Hid (lstC N 4 = T) := ⟨_, rfl⟩
      rw [HT.out] at HOO HLK HPC HMA HCT
      obtain ⟨o5, c5, rfl, hov5, -⟩ := own_tabsV HOO.out.1
      have HTV : Hid (TabsV wr o5 T.length T) := hov5
      have C5 : Hid _ := pick_any o5 T.length c5 T wr hov5 (by have := HLK.out; omega)
      have HOF : Hid (∀ V (m : Nat), Below wr.heap.size wr V → m < 4 → Calls Try.prog 17 #[.slice o5 T.length c5, .int .i64 (m : Int)] V fun e w' => e = .returned (.int .i64 ((N.getD m 0 : Nat) : Int)) ∧ w' = V) := fun V m hV hm => by
        have h1 := of_any o5 T.length c5 T V (HTV.out.keep hV) (by have := HLK.out; omega) m
        rw [cntN_all, HCT.out m hm] at h1
        exact h1
      obtain ⟨tl, HTL⟩ : ∃ l, Hid (T.length = l) := ⟨_, rfl⟩
      rw [HTL.out] at C5 HOF
      rw [HTL.out]
      obtain ⟨wo, hwo⟩ : ∃ Z, Z = wr := ⟨_, rfl⟩
      subst hwo
      have HBO : Hid (Below W.heap.size W wo) := HOO.out.2
      clear hov5 HOO HLK
      go_wp2_with fail
      refine Calls.mono C5.out ?_
      rintro e w6 ⟨r6, k6, rfl, hi6, hb6⟩
      have HB6 : Hid (Below W.heap.size W w6 ∧ Below wo.heap.size wo w6) := ⟨HBO.out.trans (hb6.mono HBO.out.size), hb6⟩
      have HBE : Hid (Below w.heap.size w w6) := HBW.out.trans (HB6.out.1.mono HBW.out.size)
      obtain ⟨c0, c1, c2, c3⟩ := HC.out w6 HB6.out.1
      have hg0 : N.getD 0 0 = n0 := by rw [← HN.out]; rfl
      have hg1 : N.getD 1 0 = n1 := by rw [← HN.out]; rfl
      have hg2 : N.getD 2 0 = n2 := by rw [← HN.out]; rfl
      have HG : Hid (N.getD 0 0 = n0 ∧ N.getD 1 0 = n1 ∧ N.getD 2 0 = n2) := ⟨hg0, hg1, hg2⟩
      have HP2 : Hid (pickF T = if 4 < n0 then some 0 else if 8 < n1 then some 1 else if 32 < n2 then some 2 else none) := by show _ = _; rw [HPC.out, hg0, hg1, hg2]
      clear hi6 hb6 C5 hg0 hg1 hg2
      by_cases g0 : 4 < n0
      · have hp : pickF T = some 0 := by rw [HP2.out, if_pos g0]
        obtain ⟨p1, p2, p3⟩ := pk_of hp
        have hl := HMA.out 0 hp
        rw [← p1] at hl
        rw [if_pos rfl, HG.out.1] at hl
        rw [hl, p2, p3]
        have z0 : (4 : Int) < (n0 : Int) := by omega
        have HQC : Hid (∀ n, Calls Try.prog 17 #[.slice o5 tl c5, .int .i64 (0 : Int)] (w6.drewN n) fun e w' => e = .returned (.int .i64 ((n0 : Nat) : Int)) ∧ w' = w6.drewN n) := fun n => by
          have h1 := HOF.out (w6.drewN n) 0 (bel_drewN HB6.out.2 n) (by omega)
          rw [HG.out.1] at h1
          exact h1
        clear hp p1 p2 p3 hl
        go_upto_region 25 with fail
        go_wp2_with fail
        go_quiet (first | (go_at_call_of 17 (Value.slice o5 tl c5); exact Calls.quiet_of_same (HQC.out _)))
        go_wp2
        go_ret
        exact ⟨rfl, bel_drewN HBE.out nq⟩
      · by_cases g1 : 8 < n1
        · have hp : pickF T = some 1 := by rw [HP2.out, if_neg g0, if_pos g1]
          obtain ⟨p1, p2, p3⟩ := pk_of hp
          have hl := HMA.out 1 hp
          rw [← p1] at hl
          rw [if_neg (by decide)] at hl
          rw [hl, p2, p3]
          have z0 : ¬ (4 : Int) < (n0 : Int) := by omega
          have z1 : (8 : Int) < (n1 : Int) := by omega
          have HQC : Hid (∀ n, Calls Try.prog 17 #[.slice o5 tl c5, .int .i64 (1 : Int)] (w6.drewN n) fun e w' => e = .returned (.int .i64 ((n1 : Nat) : Int)) ∧ w' = w6.drewN n) := fun n => by
            have h1 := HOF.out (w6.drewN n) 1 (bel_drewN HB6.out.2 n) (by omega)
            rw [HG.out.2.1] at h1
            exact h1
          clear hp p1 p2 p3 hl
          go_upto_region 25 with fail
          go_wp2_with fail
          go_quiet (first | (go_at_call_of 17 (Value.slice o5 tl c5); exact Calls.quiet_of_same (HQC.out _)))
          go_wp2
          go_ret
          exact ⟨rfl, bel_drewN HBE.out nq⟩
        · by_cases g2 : 32 < n2
          · have hp : pickF T = some 2 := by rw [HP2.out, if_neg g0, if_neg g1, if_pos g2]
            obtain ⟨p1, p2, p3⟩ := pk_of hp
            have hl := HMA.out 2 hp
            rw [← p1] at hl
            rw [if_neg (by decide)] at hl
            rw [hl, p2, p3]
            have z0 : ¬ (4 : Int) < (n0 : Int) := by omega
            have z1 : ¬ (8 : Int) < (n1 : Int) := by omega
            have z2 : (32 : Int) < (n2 : Int) := by omega
            have HQC : Hid (∀ n, Calls Try.prog 17 #[.slice o5 tl c5, .int .i64 (2 : Int)] (w6.drewN n) fun e w' => e = .returned (.int .i64 ((n2 : Nat) : Int)) ∧ w' = w6.drewN n) := fun n => by
              have h1 := HOF.out (w6.drewN n) 2 (bel_drewN HB6.out.2 n) (by omega)
              rw [HG.out.2.2] at h1
              exact h1
            clear hp p1 p2 p3 hl
            go_upto_region 25 with fail
            go_wp2_with fail
            go_quiet (first | (go_at_call_of 17 (Value.slice o5 tl c5); exact Calls.quiet_of_same (HQC.out _)))
            go_wp2
            go_ret
            exact ⟨rfl, bel_drewN HBE.out nq⟩
          · have hp : pickF T = none := by rw [HP2.out, if_neg g0, if_neg g1, if_neg g2]
            obtain ⟨p1, p2, p3⟩ := pk_none hp
            have hl : (pkL T).length = 0 := by rw [p1]; rfl
            rw [hl, p2, p3]
            have z0 : ¬ (4 : Int) < (n0 : Int) := by omega
            have z1 : ¬ (8 : Int) < (n1 : Int) := by omega
            have z2 : ¬ (32 : Int) < (n2 : Int) := by omega
            clear hp p1 p2 p3 hl
            go_wp2
            go_ret
            exact ⟨rfl, HBE.out⟩
end Go.Proofs.Ytnkbhojflcckmaa
