/-
  PickAlone: its walk.
-/
import Derived.Test.YtnkbhojflcckmaaPicksW
import Derived.Test.YtnkbhojflcckmaaPkY
namespace Go.Proofs.Ytnkbhojflcckmaa
open Go.RowKit
set_option linter.unusedSectionVars false
theorem and65535 (n : Int) : bits .and .i64 n 65535 = n % 65536 := by
  have hm : (BitVec.ofInt 64 65535).toNat = 2 ^ 16 - 1 := by decide
  have key : (BitVec.ofInt 64 n &&& BitVec.ofInt 64 65535).toNat = (n % ((2 ^ 64 : Nat) : Int)).toNat % 2 ^ 16 := by
    rw [BitVec.toNat_and, BitVec.toNat_ofInt, hm, Nat.and_two_pow_sub_one_eq_mod]
  show IntKind.i64.wrap ((BitVec.ofInt 64 n &&& BitVec.ofInt 64 65535).toNat : Nat) = n % 65536
  rw [key, IntKind.wrap_i64]
  omega
theorem bit_rem (n : Int) (q : Nat) (hq : 0 < q) : ∃ r : Nat, ∃ k : Nat, bits .and .i64 n 65535 = (r : Int) ∧ r ≤ 65535 ∧ (r : Int).tmod (q : Int) = (k : Int) ∧ k < q :=
  ⟨(n % 65536).toNat, (n % 65536).toNat % q, by rw [and65535]; omega, by omega, (Int.ofNat_tmod _ _).symm, Nat.mod_lt _ hq⟩
theorem TabsV.dropk {w : World} {g : Nat} {n : Nat} {ts : List Tb} (h : TabsV w (some ⟨g, 0, none⟩) n ts) (k : Nat) (hk : k < n) : TabsV w (some ⟨g, k * 36, none⟩) (n - k) (ts.drop k) :=
  ⟨by rw [List.length_drop, h.1], fun _ => by
    obtain ⟨b, off, h2, h3⟩ := h.2 (by omega)
    cases h2
    refine ⟨g, k * 36, rfl, fun j u hu => ?_⟩
    have e : flatT ts = flatT (ts.take k) ++ flatT (ts.drop k) := by rw [← flatT_append, List.take_append_drop]
    have hl : (flatT (ts.take k)).length = k * 36 := by rw [flatT_len, List.length_take, h.1]; congr 1; omega
    have := h3 (k * 36 + j) u (by rw [e, List.getElem?_append_right (by omega), hl, Nat.add_sub_cancel_left]; exact hu)
    rw [Nat.zero_add] at this
    exact this⟩
set_option maxRecDepth 100000 in
set_option maxHeartbeats 1500000 in
theorem alone_walk (ao : Option Addr) (n c : Nat) (ts : List Tb) (pos : Int) (w : World) (hE : TabsV w ao n ts) (hn : n ≤ 9223372036854775807) :
    Calls Try.prog 7 #[.slice ao n c, .int .i64 pos] w fun e w' => e = .returned (.bool true) ∧ Below w.heap.size w w' := by
  have HE : Hid (∀ V, Below w.heap.size w V → TabsV V ao n ts) := fun V hV => hE.keep hV
  have C0 : Hid _ := shown_any w
  obtain ⟨T, HT⟩ : ∃ T, Hid (rightL ts = T) := ⟨_, rfl⟩
  have HTL : Hid (T.length ≤ 600) := by show _ ≤ _; rw [← HT.out]; exact right_len ts
  have HTS : Hid (T.Pairwise (fun a b => a.lv ≤ b.lv)) := by show List.Pairwise _ _; rw [← HT.out]; exact right_sorted ts
  clear hE
  go_enter Try.func7, Try.ntmps7
  go_wp2_with fail
  refine Calls.mono C0.out ?_
  rintro e w1 ⟨rfl, hb1⟩
  have HB1 : Hid (Below w.heap.size w w1) := hb1
  have C1 : Hid _ := right_any ao n c ts w1 (HE.out w1 hb1) hn
  rw [HT.out] at C1
  clear hb1 C0
  go_wp2_with fail
  refine Calls.mono C1.out ?_
  rintro e w2 ⟨v, rfl, hown2, hb2⟩
  obtain ⟨n2, HN2⟩ : ∃ k, Hid (T.length = k) := ⟨_, rfl⟩
  rw [HN2.out] at hown2 HTL
  obtain ⟨oo, oc, rfl, hov, ho0, hoc1, hoc2, -⟩ := own_tabsV hown2
  have HOV : Hid (TabsV w2 oo n2 T) := hov
  have HO0 : Hid (oo = none → oc = 0) := ho0
  have HOC : Hid (n2 ≤ oc ∧ oc ≤ 9223372036854775807) := ⟨hoc1, hoc2⟩
  have HOG : Hid (0 < n2 → ∃ g, oo = some ⟨g, 0, none⟩) := fun h => by
    obtain ⟨g, c9, h1, -⟩ := ex4 hown2 h
    cases h1
    exact ⟨g, rfl⟩
  have HB2 : Hid (Below w.heap.size w w2) := HB1.out.trans (hb2.mono HB1.out.size)
  have C2 : Hid _ := pick_any oo n2 oc T w2 hov (by have := HTL.out; omega)
  clear hown2 hb2 hov ho0 hoc1 hoc2 C1
  obtain ⟨q, HQ⟩ : ∃ q, Hid ((pkL T).length = q) := ⟨_, rfl⟩
  go_wp2_with fail
  refine Calls.mono C2.out ?_
  rintro e w3 ⟨r3, k3, rfl, hi3, hb3⟩
  rw [HQ.out] at hi3 ⊢
  have HI3 : Hid (IntsV w3 r3 q (pkL T)) := hi3
  have HB3 : Hid (Below w.heap.size w w3 ∧ Below w2.heap.size w2 w3) := ⟨HB2.out.trans (hb3.mono HB2.out.size), hb3⟩
  have HOV3 : Hid (TabsV w3 oo n2 T) := HOV.out.keep hb3
  clear hi3 hb3 C2
  cases hp : pickF T with
  | none =>
    have HP : Hid _ := hp
    obtain ⟨p1, p2, p3⟩ := pk_none hp
    rw [p2, p3]
    clear hp p1 p2 p3
    by_cases hz : n2 = 0
    · subst hz
      go_wp2
      go_ret
      exact ⟨rfl, HB3.out.1⟩
    · obtain ⟨r, k, hr1, hr2, hr3, hk⟩ := bit_rem pos n2 (by omega)
      obtain ⟨g, rfl⟩ := HOG.out (by omega)
      have hnz : ((n2 : Int) == 0) = false := by simp; omega
      have hnz2 : ¬ (n2 : Int) = 0 := by omega
      have hkz : (k : Int) ≤ (oc : Int) := by have := HOC.out.1; omega
      have HK : Hid (k < n2) := hk
      have HR : Hid _ := hr2
      clear hr2 hk
      go_upto_region 8 with fail
      have HTA : Hid (TabsV w3 (some ⟨g, 0, none⟩) k (T.take k)) := HOV3.out.take k (by have := HK.out; omega)
      have HO5 : Hid ((w3.alloc (.cells #[] 32)).ownsRow w3.heap.size 32 36 (.slice (some ⟨w3.heap.size, 0, none⟩) 0 0) 0 (flatT [])) := own_emptyT w3
      have HS5 : Hid (w3.heap.size ≤ (w3.alloc (.cells #[] 32)).heap.size) := by show _ ≤ _; simp
      have HT5 : Hid (TabsV (w3.alloc (.cells #[] 32)) (some ⟨g, 0, none⟩) k (T.take k)) := HTA.out.keep (bel_alloc _ _)
      go_wp2_with (at_builtin; refine wpList_append_tabs _ rfl (.tmp 40) (.tmp 43) rfl w3.heap.size _ 0 [] rfl HO5.out HS5.out (some ⟨g, 0, none⟩) k oc (T.take k) rfl HT5.out (fun h => by cases h) (by have := HK.out; have := HTL.out; omega) ?_)
      intro v4 w4 hown4 hb4
      have HTK : Hid ((T.take k).length = k) := HTA.out.1
      have HO4 : Hid (w4.ownsRow w3.heap.size 32 36 v4 k (flatT (T.take k))) := by show World.ownsRow _ _ _ _ _ _ _; have h9 := hown4; rw [← List.length_take, HTK.out] at h9; exact h9
      have HB4 : Hid (Below w3.heap.size w3 w4) := (bel_alloc _ _).trans (hb4.mono (by simp))
      have HS4 : Hid (w3.heap.size ≤ w4.heap.size) := HB4.out.size
      have HTV4 : Hid (TabsV w4 (some ⟨g, 0, none⟩) n2 T) := HOV3.out.keep HB4.out
      clear hown4 hb4
      have hk1 : wrap64 ((k : Int) + 1) = (k : Int) + 1 := by have := HK.out; have := HTL.out; unfold wrap64; omega
      have hk2 : ¬ ((k : Int) + 1 < 0) := by omega
      have hk3 : (k : Int) + 1 ≤ (n2 : Int) := by have := HK.out; omega
      have hk4 : (n2 : Int) ≤ (oc : Int) := by have := HOC.out.1; omega
      by_cases hcap : oc = k + 1
      · have HD9 : Hid (n2 = k + 1 ∧ T.drop (k + 1) = []) := by
          have h1 := HK.out; have h2 := HOC.out.1; have h3 := HN2.out
          exact ⟨by omega, List.drop_eq_nil_of_le (by omega)⟩
        obtain ⟨rfl, h9⟩ := HD9.out
        subst hcap
        have HTE : Hid (TabsV w4 (some ⟨g, 0, none⟩) 0 []) := tabsV_nil _ _
        clear hkz hnz hnz2
        go_upto_region 9 with fail
        go_wp2_with (at_builtin; refine wpList_append_tabs _ rfl (.tmp 45) (.tmp 49) rfl w3.heap.size _ k (T.take k) rfl HO4.out HS4.out (some ⟨g, 0, none⟩) 0 0 [] rfl HTE.out (fun h => by cases h) (by have := HTL.out; omega) ?_)
        intro v5 w5 hown5 hb5
        have HO6 : Hid (w5.ownsRow w3.heap.size 32 36 v5 (T.take k ++ T.drop (k + 1)).length (flatT (T.take k ++ T.drop (k + 1)))) := by show World.ownsRow _ _ _ _ _ _ _; simpa [h9] using hown5
        have HB5 : Hid (Below w3.heap.size w3 w5) := HB4.out.trans hb5
        have HLE : Hid ((T.take k ++ T.drop (k + 1)).length ≤ 1000) := by show _ ≤ _; have := HTL.out; have := HN2.out; simp; omega
        have HPN : Hid (pickF (T.take k ++ T.drop (k + 1)) = none) := none_less HP.out (by rw [← List.eraseIdx_eq_take_drop_succ]; exact List.eraseIdx_sublist T k)
        obtain ⟨L5, HL5⟩ : ∃ L, Hid (T.take k ++ T.drop (k + 1) = L) := ⟨_, rfl⟩
        rw [HL5.out] at HO6 HLE HPN
        clear hown5 hb5
        obtain ⟨o5, c5, rfl, hov5, -⟩ := own_tabsV HO6.out
        have C5 : Hid _ := pick_any o5 L5.length c5 L5 w5 hov5 HLE.out
        obtain ⟨l5, HL6⟩ : ∃ l, Hid (L5.length = l) := ⟨_, rfl⟩
        rw [HL6.out] at C5 ⊢
        clear hov5
        go_wp2_with fail
        refine Calls.mono C5.out ?_
        rintro e w6 ⟨r6, k6, rfl, hi6, hb6⟩
        obtain ⟨p1, p2, p3⟩ := pk_none HPN.out
        rw [p2, p3]
        have HB6 : Hid (Below w.heap.size w w6) := HB3.out.1.trans ((HB5.out.trans (hb6.mono HB5.out.size)).mono HB3.out.1.size)
        clear hi6 hb6 C5 p1 p2 p3
        go_wp2
        go_ret
        exact ⟨rfl, HB6.out⟩
      · have HTE : Hid (TabsV w4 (some ⟨g, (k + 1) * 36, none⟩) (n2 - (k + 1)) (T.drop (k + 1))) := by
          have h1 := HK.out
          by_cases h2 : k + 1 < n2
          · exact HTV4.out.dropk (k + 1) h2
          · have e1 : n2 - (k + 1) = 0 := by omega
            have e2 : T.drop (k + 1) = [] := List.drop_eq_nil_of_le (by have := HN2.out; omega)
            rw [e1, e2]; exact tabsV_nil _ _
        clear hkz hnz hnz2
        go_upto_region 9 with fail
        go_wp2_with (at_builtin; refine wpList_append_tabs _ rfl (.tmp 45) (.tmp 49) rfl w3.heap.size _ k (T.take k) rfl HO4.out HS4.out (some ⟨g, (k + 1) * 36, none⟩) (n2 - (k + 1)) (oc - (k + 1)) (T.drop (k + 1)) rfl HTE.out (fun h => by cases h) (by have := HTL.out; omega) ?_)
        intro v5 w5 hown5 hb5
        have HO6 : Hid (w5.ownsRow w3.heap.size 32 36 v5 (T.take k ++ T.drop (k + 1)).length (flatT (T.take k ++ T.drop (k + 1)))) := by show World.ownsRow _ _ _ _ _ _ _; simpa using hown5
        have HB5 : Hid (Below w3.heap.size w3 w5) := HB4.out.trans hb5
        have HLE : Hid ((T.take k ++ T.drop (k + 1)).length ≤ 1000) := by show _ ≤ _; have := HTL.out; have := HN2.out; simp; omega
        have HPN : Hid (pickF (T.take k ++ T.drop (k + 1)) = none) := none_less HP.out (by rw [← List.eraseIdx_eq_take_drop_succ]; exact List.eraseIdx_sublist T k)
        obtain ⟨L5, HL5⟩ : ∃ L, Hid (T.take k ++ T.drop (k + 1) = L) := ⟨_, rfl⟩
        rw [HL5.out] at HO6 HLE HPN
        clear hown5 hb5
        obtain ⟨o5, c5, rfl, hov5, -⟩ := own_tabsV HO6.out
        have C5 : Hid _ := pick_any o5 L5.length c5 L5 w5 hov5 HLE.out
        obtain ⟨l5, HL6⟩ : ∃ l, Hid (L5.length = l) := ⟨_, rfl⟩
        rw [HL6.out] at C5 ⊢
        clear hov5
        go_wp2_with fail
        refine Calls.mono C5.out ?_
        rintro e w6 ⟨r6, k6, rfl, hi6, hb6⟩
        obtain ⟨p1, p2, p3⟩ := pk_none HPN.out
        rw [p2, p3]
        have HB6 : Hid (Below w.heap.size w w6) := HB3.out.1.trans ((HB5.out.trans (hb6.mono HB5.out.size)).mono HB3.out.1.size)
        clear hi6 hb6 C5 p1 p2 p3
        go_wp2
        go_ret
        exact ⟨rfl, HB6.out⟩
  | some f =>
    have HP : Hid _ := alone_math HTS.out hp
    have HF3 : Hid (f < 3) := pickF_lt hp
    obtain ⟨p1, p2, p3⟩ := pk_of hp
    have HPL : Hid (pkL T = inL T f) := p1
    have HFP : Hid (∀ x : Tb, (decide (x.lv ≤ ((f + 1 : Nat) : Int))) = decide (x.lv ≤ (f : Int) + 1)) := fun x => rfl
    rw [p2, p3]
    have hf1 : ((f + 1 : Nat) : Int) = (f : Int) + 1 := by omega
    rw [hf1]
    clear hp p1 p2 p3 hf1
    go_wp2
    go_loopw [14, 15] (fun o x wr => ∃ i : Nat, x = .int .i64 i ∧ i ≤ n2 ∧ wr.ownsRow w3.heap.size 32 36 o ((T.take i).filter fun x => decide (x.lv ≤ (f : Int) + 1)).length (flatT ((T.take i).filter fun x => decide (x.lv ≤ (f : Int) + 1))) ∧ Below w3.heap.size w3 wr) (fun _ x _ => n2 - (intOf x).toNat)
    case atStart => exact ⟨0, rfl, by omega, World.ownsRow_nil _ _ _ _, Below.refl _ _⟩
    case round =>
      obtain ⟨i, rfl, hin, hown, hbel⟩ := hrel
      have HBL : Hid (Below w3.heap.size w3 wr) := hbel
      have HOW : Hid (wr.ownsRow w3.heap.size 32 36 u14 ((T.take i).filter fun x => decide (x.lv ≤ (f : Int) + 1)).length (flatT ((T.take i).filter fun x => decide (x.lv ≤ (f : Int) + 1)))) := hown
      clear hown
      by_cases hlt : i < n2
      · have hltz : (i : Int) < (n2 : Int) := by omega
        have hi9 : (i : Int) < 601 := by have := HTL.out; omega
        have hTV := HOV3.out.keep hbel
        obtain ⟨b, off, hao, hEn⟩ := hTV.2 (by omega)
        obtain ⟨x, HX⟩ : ∃ x, Hid (T.getD i zT = x) := ⟨_, rfl⟩
        have HRX : Hid (wr.rangeAt b (off + i * 36) (encT x)) := tabs_range hEn i (by have := hTV.1; omega) HX.out
        have HSN : Hid (T.take (i + 1) = T.take i ++ [x]) := by
          show _ = _
          rw [← HX.out, List.take_succ_eq_append_getElem (by have := HN2.out; omega), getD_at T i zT (by have := HN2.out; omega)]
        obtain ⟨c0, -, -, -⟩ := range_four HRX.out
        obtain ⟨D, HD⟩ : ∃ D, Hid (((T.take i).filter fun x => decide (x.lv ≤ (f : Int) + 1)) = D) := ⟨_, rfl⟩
        have HDL : Hid (D.length ≤ 600) := by
          show _ ≤ _
          rw [← HD.out]
          have h1 := List.length_filter_le (fun x : Tb => decide (x.lv ≤ (f : Int) + 1)) (T.take i)
          have h2 : (T.take i).length ≤ i := by rw [List.length_take]; omega
          have := HTL.out
          omega
        rw [HD.out] at HOW
        subst hao
        clear hTV hEn hbel
        by_cases hle : x.lv ≤ (f : Int) + 1
        · have HFN : Hid (((T.take (i + 1)).filter fun x => decide (x.lv ≤ (f : Int) + 1)) = D ++ [x]) := by
            show _ = _
            rw [HSN.out, List.filter_append, HD.out, List.filter_cons_of_pos (by exact decide_eq_true hle), List.filter_nil]
          have HO5 : Hid ((wr.alloc (.cells (encT x).toArray 32)).ownsRow w3.heap.size 32 36 u14 D.length (flatT D)) := HOW.out.alloc _
          have HS5 : Hid (w3.heap.size ≤ (wr.alloc (.cells (encT x).toArray 32)).heap.size) := by show _ ≤ _; have := HBL.out.size; simp; omega
          go_upto_region 17 with fail
          clear c0 hle
          go_wp2_with (first | (refine wpList_load_mid rfl 32 (.tmp 78) rfl b (off + i * 36) rfl (encT x) _ HRX.out Try.underlying32 rfl (sizeT x) ?_) | (refine wpList_build_tab _ rfl (.tmp 79) rfl x rfl ?_) | (at_builtin; refine wpList_append_tabs _ rfl (.tmp 75) (.tmp 80) rfl w3.heap.size _ D.length D rfl HO5.out HS5.out _ 1 1 [x] rfl (tabsV_one wr x) (fun h => by cases h) (by have := HDL.out; omega) ?_))
          intro v' w6 hown6 hb6
          have HN : Hid (w6.ownsRow w3.heap.size 32 36 v' (D ++ [x]).length (flatT (D ++ [x])) ∧ Below w3.heap.size w3 w6) := And.intro (by simpa using hown6) ((HBL.out.alloc HBL.out.size _).trans hb6)
          clear hown6 hb6
          go_wp2
          go_roundw
          case rel => exact ⟨i + 1, by go_num, by omega, by rw [HFN.out]; exact HN.out.1, HN.out.2⟩
          case measure => simp [intOf]; omega
        · have HFN : Hid (((T.take (i + 1)).filter fun x => decide (x.lv ≤ (f : Int) + 1)) = D) := by
            show _ = _
            rw [HSN.out, List.filter_append, HD.out, List.filter_cons_of_neg (by rw [decide_eq_false hle]; simp), List.filter_nil, List.append_nil]
          go_wp2
          go_roundw
          case rel => exact ⟨i + 1, by go_num, by omega, by rw [HFN.out]; exact HOW.out, HBL.out⟩
          case measure => simp [intOf]; omega
      · have hltz : ¬ (i : Int) < (n2 : Int) := by omega
        obtain rfl : i = n2 := by omega
        have HTA : Hid (T.take i = T) := List.take_of_length_le (by have := HN2.out; omega)
        rw [HTA.out] at HOW
        obtain ⟨U, HU⟩ : ∃ U, Hid ((T.filter fun x => decide (x.lv ≤ (f : Int) + 1)) = U) := ⟨_, rfl⟩
        rw [HU.out] at HOW
        have HUM : Hid (pickF U = some f ∧ inL U f = inL T f) := by
          show _ ∧ _
          have h9 := HP.out
          rw [← HU.out]
          exact h9
        have HUL : Hid (U.length ≤ 1000) := by
          show _ ≤ _
          rw [← HU.out]
          have h1 := List.length_filter_le (fun x : Tb => decide (x.lv ≤ (f : Int) + 1)) T
          have := HTL.out; have := HN2.out
          omega
        obtain ⟨o5, c5, rfl, hov5, -⟩ := own_tabsV HOW.out
        have C5 : Hid _ := pick_any o5 U.length c5 U wr hov5 HUL.out
        obtain ⟨l5, HL6⟩ : ∃ l, Hid (U.length = l) := ⟨_, rfl⟩
        rw [HL6.out] at C5 ⊢
        clear hov5 hbel HOW
        obtain ⟨wo, hwo⟩ : ∃ W, W = wr := ⟨_, rfl⟩
        subst hwo
        go_wp2_with fail
        refine Calls.mono C5.out ?_
        rintro e w6 ⟨r6, k6, rfl, hi6, hb6⟩
        obtain ⟨p1, p2, p3⟩ := pk_of HUM.out.1
        rw [p1, HUM.out.2, ← HPL.out, HQ.out] at hi6
        rw [p1, HUM.out.2, ← HPL.out, HQ.out, p2, p3, show ((f + 1 : Nat) : Int) = (f : Int) + 1 from by omega]
        have HI6 : Hid (IntsV w6 r6 q (pkL T) ∧ IntsV w6 r3 q (pkL T)) := ⟨hi6, (HI3.out.keep HBL.out).keep hb6⟩
        have HB6 : Hid (Below w.heap.size w w6) := HB3.out.1.trans ((HBL.out.trans (hb6.mono HBL.out.size)).mono HB3.out.1.size)
        have HQM : Hid (q ≤ 600) := by show q ≤ 600; rw [← HQ.out]; have h1 := pkL_len T; have h2 := HN2.out; have h3 := HTL.out; omega
        clear hi6 hb6 C5 p1 p2 p3
        go_wp2
        go_loopw [19] (fun x wr => ∃ i : Nat, x = .int .i64 i ∧ i ≤ q ∧ Below w6.heap.size w6 wr) (fun x _ => q - (intOf x).toNat)
        case atStart => exact ⟨0, rfl, by omega, Below.refl _ _⟩
        case round =>
          obtain ⟨p, rfl, hiq, hbel⟩ := hrel
          have HBN : Hid _ := hbel
          by_cases hlt2 : p < q
          · have hltz2 : (p : Int) < (q : Int) := by omega
            have hi2 : (p : Int) < 601 := by have := HQM.out; omega
            obtain ⟨b, off, hro, hca⟩ := (HI6.out.1.keep hbel).2 (by omega)
            obtain ⟨b2, off2, hro2, hcb⟩ := (HI6.out.2.keep hbel).2 (by omega)
            have e1 := hca p hlt2
            have e2 := hcb p hlt2
            obtain ⟨y, HY⟩ : ∃ y, Hid ((pkL T).getD p 0 = y) := ⟨_, rfl⟩
            rw [HY.out] at e1 e2
            subst hro hro2
            clear hbel hca hcb
            go_wp2_with fail
            go_quiet (fail)
            go_wp2
            go_roundw
            case rel => exact ⟨p + 1, by go_num, by omega, bel_drewN HBN.out nq⟩
            case measure => simp [intOf]; omega
          · have hltz2 : ¬ (p : Int) < (q : Int) := by omega
            obtain rfl : p = q := by omega
            have HBE : Hid (Below w.heap.size w wr) := HB6.out.trans (hbel.mono HB6.out.size)
            clear hbel
            go_wp2
            go_ret
            exact ⟨rfl, HBE.out⟩
end Go.Proofs.Ytnkbhojflcckmaa
