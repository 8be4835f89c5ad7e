/-
  What slices.Sort and Pick answer: contracts over this translation.
-/
import Derived.Test.YtnkbhojflcckmaaPkP
import Derived.Test.YtnkbhojflcckmaaPkR
import Derived.Test.YtnkbhojflcckmaaSrt
import Derived.Sort.OwnSortedInts
namespace Go.Proofs.Ytnkbhojflcckmaa
open Go.RowKit
set_option linter.unusedSectionVars false
theorem sort_any (w : World) (base : Nat) (v : Value) (l : List Int) (hown : w.ownsRow base 3 1 v l.length (l.map (Value.int .i64))) (hb : base ≤ w.heap.size) (h1 : 1 ≤ l.length) (hn : l.length ≤ 100000) :
    Calls Try.prog 24 #[v] w fun e w' => e = .returned (.tuple #[]) ∧ w'.ownsRow base 3 1 v l.length ((l.mergeSort fun x y => decide (x ≤ y)).map (Value.int .i64)) ∧ Below base w w' := by
  rcases hown.2 with ⟨rfl, h0⟩ | ⟨g, cap, cur, rfl, hg, hh, hc, hm, hs, ht⟩
  · omega
  · have hH := holds_of_blockI (ss := l) hh (by rw [Nat.mul_one] at ht; exact ht)
    have hblk : g < w.heap.size := (Array.getElem?_eq_some_iff.1 hh).1
    refine (Any.slices_Sort_int Try.lays189 g 0 cap l w hH hblk (by omega)).mono ?_
    rintro e w' ⟨rfl, n, os, rfl⟩
    refine ⟨rfl, ?_, (Below.refl base w).grown (grownBy_sortedI _) hb (fun k hk => by cases hk; exact hg)⟩
    exact ownsRow_sortedI (by simp) hg hh hc hm hs
/-- A row of numbers, cut behind the first. -/
theorem IntsV.take1 {w : World} {ao : Option Addr} {n : Nat} {l : List Nat} (h : IntsV w ao n l) (h1 : 1 ≤ n) : IntsV w ao 1 (l.take 1) :=
  ⟨by rw [List.length_take, h.1]; omega, fun _ => by
    obtain ⟨b, off, h2, h3⟩ := h.2 (by omega)
    refine ⟨b, off, h2, fun i hi => ?_⟩
    obtain rfl : i = 0 := by omega
    have := h3 0 (by omega)
    rw [this]
    congr 2
    cases l with
    | nil => rfl
    | cons a m => rfl⟩
theorem enters19 : ∀ args w, (callFunc 19 args).run Try.prog w = .ok (.enter 19 args) w := enters_of Try.func19 (by kernel_rfl) rfl
theorem enters22 : ∀ args w, (callFunc 22 args).run Try.prog w = .ok (.enter 22 args) w := enters_of Try.func22 (by kernel_rfl) rfl
theorem own_intsV2 {w : World} {base : Nat} {v : Value} {n : Nat} {l : List Nat} (h : w.ownsRow base 3 1 v n (cellsI l)) : ∃ ao c, v = .slice ao n c ∧ IntsV w ao n l ∧ n = l.length ∧ n ≤ c ∧ (ao = none → c = 0) ∧ c ≤ 9223372036854775807 := by
  obtain ⟨ao, c, rfl, h2, h3⟩ := own_intsV h
  rcases h.2 with ⟨h4, h0⟩ | ⟨g, cap, cur, h4, hb, hg, hn, hm, hs, ht⟩
  · cases h4
    exact ⟨none, 0, rfl, h2, h3, by omega, fun _ => rfl, by omega⟩
  · cases h4
    exact ⟨_, _, rfl, h2, h3, hn, (fun h => by cases h), hm⟩
theorem cellsI_map (l : List Nat) : cellsI l = (l.map fun i : Nat => (i : Int)).map (Value.int .i64) := by simp [cellsI]
theorem all_succ {F : Nat → Prop} (i : Nat) (h : ∀ j : Nat, j < i → F j) (hi : F i) : ∀ j : Nat, j < i + 1 → F j := fun j hj => by
  by_cases h2 : j < i
  · exact h j h2
  · obtain rfl : j = i := by omega
    exact hi
theorem cap_one {k : Nat} (i : Nat) (hi : i < 3) (h : ¬ (k : Int) ≤ capI i) : 1 ≤ k := by
  match i, hi with
  | 0, _ => have h9 : ¬ (k : Int) ≤ 4 := h; omega
  | 1, _ => have h9 : ¬ (k : Int) ≤ 8 := h; omega
  | 2, _ => have h9 : ¬ (k : Int) ≤ 32 := h; omega
theorem upL_zero {ts : List Tb} {n : Nat} (h : ts.length = n) : upL ts 0 = plc (onB (0 : Nat)) ts n := by unfold upL; rw [h]; exact upN_zero ts n
theorem upL_pos {ts : List Tb} {n : Nat} (h : ts.length = n) {i : Nat} (hi : i ≠ 0) : upL ts i = (plc (onB i) ts n).take 1 := by unfold upL; rw [h]; exact upN_pos ts i hi n
theorem upL_lt {ts : List Tb} {n : Nat} (h : ts.length = n) {i : Nat} : ∀ j ∈ upL ts i, j < n := fun j hj => by rw [← h]; exact (mem_upN.1 hj).1
theorem loP_eq (ts : List Tb) (i : Nat) : loT (tabsAt ts (upL ts i)) = loP ts i ts.length := rfl
theorem hiP_eq (ts : List Tb) (i : Nat) : hiT (tabsAt ts (upL ts i)) = hiP ts i ts.length := rfl
theorem own_deeper {w : World} {b0 b1 : Nat} {e : TypeId} {size n : Nat} {v : Value} {xs : List Value} (h : w.ownsRow b1 e size v n xs) (hb : b0 ≤ b1) : w.ownsRow b0 e size v n xs :=
  ⟨h.1, h.2.imp id fun ⟨g, cap, cur, h1, h2, h3⟩ => ⟨g, cap, cur, h1, Nat.le_trans hb h2, h3⟩⟩
/-- What Pick hands out. -/
def PickR (ts : List Tb) (w : World) (e : Ending) (w' : World) : Prop := ∃ ro c, e = .returned (.tuple #[.slice ro (pkL ts).length c, .int .i64 ((pkTo ts : Nat) : Int), .bool (pkOk ts)]) ∧ IntsV w' ro (pkL ts).length (pkL ts) ∧ Below w.heap.size w w'
set_option maxRecDepth 100000 in
set_option maxHeartbeats 8000000 in
theorem pick_any (ao : Option Addr) (n c : Nat) (ts : List Tb) (w : World) (hE : TabsV w ao n ts) (hn : n ≤ 1000) :
    Calls Try.prog 10 #[.slice ao n c] w (PickR ts w) := by
  have HE : Hid (∀ V, Below w.heap.size w V → TabsV V ao n ts) := fun V hV => hE.keep hV
  have HLN : Hid (ts.length = n) := hE.1
  clear hE
  go_enter Try.func10, Try.ntmps10
  go_wp2
  go_loopw [5, 6, 7, 8, 9, 10] (fun _ _ _ _ _ x wr => ∃ i : Nat, x = .int .i64 i ∧ i ≤ 3 ∧ (∀ j : Nat, j < i → (cntN ts j n : Int) ≤ capI j) ∧ Below w.heap.size w wr) (fun _ _ _ _ _ x _ => 3 - (intOf x).toNat)
  case atStart => exact ⟨0, rfl, by omega, fun j hj => absurd hj (by omega), Below.refl _ _⟩
  case round =>
    obtain ⟨i, rfl, hin, hall, hbel⟩ := hrel
    have HB : Hid _ := hbel
    have HA : Hid _ := hall
    clear hbel hall
    by_cases hlt : i < 3
    · have hltz : (i : Int) < 3 := by omega
      have HP : Hid _ := places_any 19 #[.int .i64 i] (onB i) enters19 ao n c ts wr (HE.out wr HB.out) hn (fun W j _ _ => has_any i (ts.getD j zT) W)
      go_wp2_with fail
      refine Calls.mono HP.out ?_
      rintro e w1 ⟨v1, rfl, hown1, hb1⟩
      obtain ⟨uo, uc, rfl, hiv, hul, hucn, huz, huc⟩ := own_intsV2 hown1
      have HB1 : Hid (Below w.heap.size w w1) := HB.out.trans (hb1.mono HB.out.size)
      have HIV : Hid (IntsV w1 uo (plc (onB i) ts n).length (plc (onB i) ts n)) := hiv
      have HUZ : Hid _ := huz
      have HUC : Hid _ := And.intro hucn huc
      obtain ⟨k, HK⟩ : ∃ k, Hid ((plc (onB i) ts n).length = k) := ⟨_, rfl⟩
      rw [HK.out] at HIV HUC
      rw [HK.out]
      have HCK : Hid (cntN ts i n = k) := HK.out
      have HKN : Hid (k ≤ n) := by show _ ≤ _; rw [← HK.out]; exact plc_len _ _ _
      clear hiv hul hucn huz huc hown1 hb1 HP
      have HCP : Hid _ := cap_any i w1
      by_cases hle : (k : Int) ≤ capI i
      · obtain ⟨cp, HCI⟩ : ∃ z, Hid (capI (i : Int) = z) := ⟨_, rfl⟩
        have HA2 : Hid (∀ j : Nat, j < i + 1 → (cntN ts j n : Int) ≤ capI j) := all_succ i HA.out (by rw [HCK.out]; exact hle)
        rw [HCI.out] at hle HCP
        go_wp2_with fail
        refine Calls.mono HCP.out ?_
        rintro e w2 ⟨rfl, hw2⟩
        subst hw2
        clear HCP
        go_wp2
        go_roundw
        case rel => exact ⟨i + 1, by go_num, by omega, HA2.out, HB1.out⟩
        case measure => simp [intOf]; omega
      · have HN : Hid _ := pk_of (pickF_at ts i hlt (fun j hj => by rw [HLN.out]; exact HA.out j hj) (by rw [HLN.out, HCK.out]; exact hle))
        obtain ⟨cp, HCI⟩ : ∃ z, Hid (capI (i : Int) = z) := ⟨_, rfl⟩
        rw [HCI.out] at hle HCP
        have HK1 : Hid (1 ≤ k) := cap_one i hlt (by rw [HCI.out]; exact hle)
        go_wp2_with fail
        refine Calls.mono HCP.out ?_
        rintro e w2 ⟨rfl, hw2⟩
        subst hw2
        clear HCP
        go_upto_region 6 with fail
        clear hle
        go_upto_if 23 with fail
        go_cut [6] (fun s wx => w2 = wx ∧ ∃ m d, s = .slice uo m d ∧ Hid (m = (upL ts i).length) ∧ Hid (IntsV w2 uo m (upL ts i)) ∧ Hid (1 ≤ m ∧ m ≤ n) ∧ Hid (uo = none → d = 0))
        case first =>
          by_cases h0 : i = 0
          · subst h0
            have HUL : Hid _ := upL_zero HLN.out
            go_wp2
            go_meet
            exact ⟨rfl, k, uc, rfl, by show _ = _; rw [HUL.out]; exact HK.out.symm, by rw [HUL.out]; exact HIV.out, ⟨HK1.out, HKN.out⟩, HUZ.out⟩
          · have hi0 : (0 : Int) < (i : Int) := by omega
            have HUL : Hid _ := upL_pos HLN.out h0
            have hkz : (1 : Int) ≤ (uc : Int) := by have h1 := HK1.out; have h2 := HUC.out.1; omega
            have hk1 : ¬ (uc : Int) < 1 := by omega
            go_wp2
            go_meet
            exact ⟨rfl, 1, uc, rfl, by show _ = _; rw [HUL.out, List.length_take, HK.out]; have := HK1.out; omega, by rw [HUL.out]; exact IntsV.take1 HIV.out HK1.out, ⟨Nat.le_refl _, by have := HK1.out; have := HKN.out; omega⟩, HUZ.out⟩
        case rest =>
          obtain ⟨rfl, m, d, rfl, HM, HIU, HM1, HDZ⟩ := hcut
          have HNL : Hid _ := upL_lt HLN.out (i := i)
          have HT1 : Hid _ := tablesAt_any ao n c ts uo m d (upL ts i) w2 (HE.out w2 HB1.out) HIU.out hn (by have := HM1.out.2; omega) HNL.out
          go_upto_region 9 with fail
          go_wp2_with fail
          refine Calls.mono HT1.out ?_
          rintro e w3 ⟨v3, rfl, ho3, hb3⟩
          obtain ⟨ta, tc, rfl, htv, -⟩ := own_tabsV ho3
          have HB3 : Hid (Below w.heap.size w w3) := HB1.out.trans (hb3.mono HB1.out.size)
          have HTC : Hid _ := touched_any ((i : Int) + 1) ta m tc (tabsAt ts (upL ts i)) w3 htv (by have := HM1.out.2; omega) HM1.out.1
          rw [loP_eq, hiP_eq] at HTC
          obtain ⟨lo, HLO⟩ : ∃ z, Hid (loP ts i ts.length = z) := ⟨_, rfl⟩
          obtain ⟨hi, HHI⟩ : ∃ z, Hid (hiP ts i ts.length = z) := ⟨_, rfl⟩
          rw [HLO.out, HHI.out] at HTC
          have HIU3 : Hid (IntsV w3 uo m (upL ts i)) := IntsV.keep HIU.out hb3
          clear ho3 hb3 htv HT1
          go_wp2_with fail
          refine Calls.mono HTC.out ?_
          rintro e w4 ⟨rfl, hb4⟩
          have HB4 : Hid (Below w.heap.size w w4) := HB3.out.trans (hb4.mono HB3.out.size)
          have HIU4 : Hid (IntsV w4 uo m (upL ts i)) := IntsV.keep HIU3.out hb4
          have HQ : Hid _ := places_any 22 #[.agg #[.int .i64 ((i : Int) + 1), .string lo, .string hi]] (touB ((i : Int) + 1) lo hi) enters22 ao n c ts w4 (HE.out w4 HB4.out) hn (fun W j _ _ => tou_any ((i : Int) + 1) lo hi (ts.getD j zT) W)
          have HLW : Hid (plc (touB ((i : Int) + 1) lo hi) ts n = lowL ts i) := by show _ = _; rw [← HLO.out, ← HHI.out, ← HLN.out]; rfl
          rw [HLW.out] at HQ
          clear hb4 HTC HIU3
          go_wp2_with fail
          refine Calls.mono HQ.out ?_
          rintro e w5 ⟨v5, rfl, ho5, hb5⟩
          obtain ⟨la, lc, rfl, hiv5, hl5, -, hlz, -⟩ := own_intsV2 ho5
          have HB5 : Hid (Below w.heap.size w w5) := HB4.out.trans (hb5.mono HB4.out.size)
          have HIU5 : Hid (IntsV w5 uo m (upL ts i)) := IntsV.keep HIU4.out hb5
          have HLV5 : Hid (IntsV w5 la (lowL ts i).length (lowL ts i)) := hiv5
          have HLZ : Hid _ := hlz
          obtain ⟨q, HQL⟩ : ∃ q, Hid ((lowL ts i).length = q) := ⟨_, rfl⟩
          rw [HQL.out] at HLV5
          rw [HQL.out]
          have HQN : Hid (q ≤ 1000) := by show q ≤ 1000; rw [← HQL.out, ← HLW.out]; exact Nat.le_trans (plc_len _ _ _) hn
          obtain ⟨W6, HW6⟩ : ∃ W, Hid (w5.alloc (.cells #[.slice uo m d, .slice la q lc] 24) = W) := ⟨_, rfl⟩
          have HC6 : Hid (W6.cell? ⟨w5.heap.size, 0, none⟩ = some (.slice uo m d) ∧ W6.cell? ⟨w5.heap.size, 1, none⟩ = some (.slice la q lc)) := by
            show _ ∧ _
            rw [← HW6.out]
            exact ⟨by rw [cell_of_row _ _ _ _ _ _ (heap_alloc_new w5 _)]; rfl, by rw [cell_of_row _ _ _ _ _ _ (heap_alloc_new w5 _)]; rfl⟩
          have HB6 : Hid (Below w5.heap.size w5 W6) := by show Below _ _ _; rw [← HW6.out]; exact bel_alloc _ _
          have HCT : Hid _ := concat_any w5.heap.size uo m d (upL ts i) la q lc (lowL ts i) W6 HC6.out.1 HC6.out.2 (IntsV.keep HIU5.out HB6.out) (IntsV.keep HLV5.out HB6.out) HDZ.out HLZ.out (by have := HM1.out.2; omega) HQN.out
          clear ho5 hb5 hiv5 hl5 hlz HQ HIU4
          go_upto_region 10 with fail
          go_wp2_with fail
          rw [HW6.out]
          refine Calls.mono HCT.out ?_
          rintro e w7 ⟨v7, rfl, ho7, hb7⟩
          have HB7 : Hid (Below w.heap.size w w7) := HB5.out.trans ((HB6.out.trans (hb7.mono HB6.out.size)).mono HB5.out.size)
          have HWS : Hid (w.heap.size ≤ W6.heap.size) := Nat.le_trans HB5.out.size HB6.out.size
          have HLN7 : Hid (1 ≤ (upL ts i ++ lowL ts i).length ∧ (upL ts i ++ lowL ts i).length ≤ 2000) := by
            show _ ∧ _
            rw [List.length_append, HQL.out, ← HM.out]
            have h1 := HM1.out; have h2 := HQN.out
            omega
          have HS7 : Hid (w7.ownsRow w.heap.size 3 1 v7 ((upL ts i ++ lowL ts i).map fun i : Nat => (i : Int)).length (((upL ts i ++ lowL ts i).map fun i : Nat => (i : Int)).map (Value.int .i64))) := by
            show World.ownsRow _ _ _ _ _ _ _
            rw [List.length_map, ← cellsI_map]
            exact own_deeper ho7 HWS.out
          have HST : Hid _ := sort_any w7 w.heap.size v7 _ HS7.out HB7.out.size (by rw [List.length_map]; exact HLN7.out.1) (by rw [List.length_map]; have := HLN7.out.2; omega)
          rw [in_sorted ts i _ rfl] at HST
          clear ho7 hb7 HCT
          go_wp2_with fail
          refine Calls.mono HST.out ?_
          rintro e w8 ⟨rfl, ho8, hb8⟩
          have HB8 : Hid (Below w.heap.size w w8) := HB7.out.trans hb8
          rw [← cellsI_map] at ho8
          obtain ⟨ra, rc, rfl, hiv8, hl8, -⟩ := own_intsV2 ho8
          have HIV8 : Hid (IntsV w8 ra _ (inL ts i)) := hiv8
          rw [hl8] at HIV8 ⊢
          clear ho8 hb8 hiv8 hl8 HST
          go_wp2
          refine bodyPost_ret (results_tmp3 rfl _ _ _) rfl ?_
          exact ⟨ra, rc, by rw [HN.out.1, HN.out.2.1, HN.out.2.2]; rfl, by rw [HN.out.1]; exact HIV8.out, HB8.out⟩
    · have hltz : ¬ (i : Int) < 3 := by omega
      obtain rfl : i = 3 := by omega
      have HN : Hid _ := pk_none (pickF_none ts (fun j hj => by rw [HLN.out]; exact HA.out j hj))
      obtain ⟨n1, n2, n3⟩ := HN.out
      go_wp2
      refine bodyPost_ret (results_tmp3 rfl _ _ _) rfl ?_
      exact ⟨none, 0, by rw [n1, n2, n3]; rfl, by rw [n1]; exact ⟨rfl, fun h => absurd h (by simp)⟩, HB.out⟩
end Go.Proofs.Ytnkbhojflcckmaa
