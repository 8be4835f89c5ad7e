/-
  PickLess: its walk.
-/
import Derived.Test.YtnkbhojflcckmaaAloneW
import Derived.Test.YtnkbhojflcckmaaPkZ
namespace Go.Proofs.Ytnkbhojflcckmaa
open Go.RowKit
set_option linter.unusedSectionVars false
/-- The flags, when so many were gone over. -/
def pkd (L : List Nat) (n i : Nat) : List Bool := (List.range n).map fun j => decide (j ∈ L.take i)
theorem pkd_len (L : List Nat) (n i : Nat) : (pkd L n i).length = n := by simp [pkd]
theorem pkd_zero (L : List Nat) (n : Nat) : pkd L n 0 = List.replicate n false := by
  unfold pkd
  apply List.ext_getElem (by simp)
  intro j h1 h2
  simp
theorem pkd_at (L : List Nat) (n i j : Nat) (h : j < n) : (pkd L n i).getD j false = decide (j ∈ L.take i) := by
  unfold pkd; simp [h]
theorem take_getD (L : List Nat) (i : Nat) (h : i < L.length) : L.take (i + 1) = L.take i ++ [L.getD i 0] := by
  rw [List.take_succ_eq_append_getElem h, List.getD_eq_getElem?_getD, List.getElem?_eq_getElem h]; rfl
theorem pkd_set (L : List Nat) (n i : Nat) (h : i < L.length) : (pkd L n i).set (L.getD i 0) true = pkd L n (i + 1) := by
  unfold pkd
  rw [take_getD L i h]
  apply List.ext_getElem (by simp)
  intro j h1 h2
  rw [List.getElem_set]
  by_cases hj : L.getD i 0 = j
  · rw [if_pos hj]
    simp only [List.getElem_map, List.getElem_range]
    exact (decide_eq_true (by rw [hj]; simp)).symm
  · rw [if_neg hj]
    simp only [List.getElem_map, List.getElem_range]
    congr 1
    rw [List.mem_append, List.mem_singleton]
    exact propext ⟨fun h => .inl h, fun h => h.elim id (fun h => absurd h.symm hj)⟩
/-- Rising: what comes is new, and above what came. -/
theorem rise_new {L : List Nat} (h : L.Pairwise (· < ·)) {i : Nat} (hi : i < L.length) : L.getD i 0 ∉ L.take i := by
  intro hm
  obtain ⟨j, hj, he⟩ := List.getElem_of_mem hm
  have hj2 : j < i := by rw [List.length_take] at hj; omega
  rw [List.getElem_take] at he
  have h2 := (List.pairwise_iff_getElem.1 h) j i (by omega) hi hj2
  rw [List.getD_eq_getElem?_getD, List.getElem?_eq_getElem hi] at he
  simp only [Option.getD_some] at he
  omega
theorem rise_next {L : List Nat} (h : L.Pairwise (· < ·)) {p : Nat} (hi : p + 1 < L.length) : L.getD p 0 < L.getD (p + 1) 0 := by
  have h2 := (List.pairwise_iff_getElem.1 h) p (p + 1) (by omega) hi (by omega)
  rw [List.getD_eq_getElem?_getD, List.getElem?_eq_getElem (by omega), List.getD_eq_getElem?_getD, List.getElem?_eq_getElem hi]
  exact h2
theorem getD_memN {L : List Nat} {i : Nat} (hi : i < L.length) : L.getD i 0 ∈ L := by
  rw [List.getD_eq_getElem?_getD, List.getElem?_eq_getElem hi]; exact List.getElem_mem hi
theorem pkd_all (ts : List Tb) (f : Nat) : pkd (inL ts f) ts.length (inL ts f).length = (List.range ts.length).map (inB ts f) := by
  unfold pkd
  rw [List.take_length]
  apply List.map_congr_left
  intro j hj
  have hj2 := List.mem_range.1 hj
  rw [Bool.eq_iff_iff, decide_eq_true_eq]
  unfold inB
  rw [Bool.or_eq_true]
  exact ⟨fun h => (mem_inN.1 h).2, fun h => mem_inN.2 ⟨hj2, h⟩⟩
/-- How many of the upper level came. -/
def upC (ts : List Tb) (f : Nat) (l : List Nat) : Nat := l.countP fun j => decide ((ts.getD j zT).lv = f)
theorem upC_snoc (ts : List Tb) (f : Nat) (l : List Nat) (k : Nat) : upC ts f (l ++ [k]) = if (ts.getD k zT).lv = f then upC ts f l + 1 else upC ts f l := by
  unfold upC
  rw [List.countP_append]
  by_cases h : (ts.getD k zT).lv = f
  · rw [if_pos h, List.countP_cons_of_pos (by exact decide_eq_true h)]; rfl
  · rw [if_neg h, List.countP_cons_of_neg (by rw [decide_eq_false h]; simp)]; rfl
theorem upC_le (ts : List Tb) (f : Nat) (l : List Nat) : upC ts f l ≤ l.length := List.countP_le_length
theorem upC_pos {ts : List Tb} {f : Nat} (h : pickF ts = some f) : 0 < upC ts f (inL ts f) := by
  have h1 := up_one h
  cases hu : upL ts f with
  | nil => exact absurd hu h1
  | cons j l =>
    have hj : j ∈ upL ts f := by rw [hu]; simp
    obtain ⟨hj1, hj2⟩ := mem_upN.1 hj
    unfold upC
    rw [List.countP_pos_iff]
    refine ⟨j, mem_inN.2 ⟨hj1, .inl hj2⟩, ?_⟩
    simp only [mineB, Bool.and_eq_true, decide_eq_true_eq] at hj2
    exact decide_eq_true hj2.1
theorem ctE_le : ∀ (P : List Tb), (∀ x ∈ P, 0 ≤ x.ct ∧ x.ct ≤ 100000) → 0 ≤ ctE P ∧ ctE P ≤ P.length * 100000
  | [], _ => by simp [ctE]
  | x :: l, h => by
    have h1 := ctE_le l (fun y hy => h y (by simp [hy]))
    have h2 := h x (by simp)
    have e1 : ctE (x :: l) = x.ct + ctE l := by simp [ctE]
    rw [e1, List.length_cons]
    omega
theorem less_w1 {k rn rm : Nat} (h : rn ≤ 38400) (h2 : rn = rm + 1 + k) : wrap64 (1 + (k : Int)) = 1 + (k : Int) := by unfold wrap64; omega
theorem less_w2 {k rn rm : Nat} (h : rn ≤ 38400) (h2 : rn = rm + 1 + k) : wrap64 ((rn : Int) - (1 + (k : Int))) = (rm : Int) := by unfold wrap64; omega
theorem less_w3 {k rn rm : Nat} (h : rn ≤ 38400) (h2 : rn = rm + 1 + k) : IntKind.i64.wrap ((rn : Int) - (1 + (k : Int))) = (rm : Int) := by rw [IntKind.wrap_i64]; omega
theorem tabs_take_mem {ts : List Tb} {L : List Nat} {i : Nat} {P : Tb → Prop} (hL : ∀ j ∈ L, j < ts.length) (h : ∀ x ∈ ts, P x) : ∀ x ∈ tabsAt ts (L.take i), P x := fun x hx => by
  simp only [tabsAt, List.mem_map] at hx
  obtain ⟨j, hj, rfl⟩ := hx
  exact h _ (getD_mem (hL j (List.mem_of_mem_take hj)))
set_option maxRecDepth 100000 in
set_option maxHeartbeats 2500000 in
theorem less_walk (ao : Option Addr) (n c : Nat) (ts : List Tb) (ko : Option Addr) (kn kc : Nat) (zs : List Int) (w : World) (hE : TabsV w ao n ts) (hn : n ≤ 9223372036854775807) (hkn : kn ≤ 9223372036854775807)
    (hZ : 0 < kn → ∃ b off, ko = some ⟨b, off, none⟩ ∧ ∀ i, i < kn → w.cell? ⟨b, off + i, none⟩ = some (.int .i64 (zs.getD i 0))) :
    Calls Try.prog 4 #[.slice ao n c, .slice ko kn kc] w fun e w' => e = .returned (.bool true) ∧ Below w.heap.size w w' := by
  have HE : Hid (∀ V, Below w.heap.size w V → TabsV V ao n ts) := fun V hV => hE.keep hV
  have HZ : Hid (∀ V, Below w.heap.size w V → 0 < kn → ∃ b off, ko = some ⟨b, off, none⟩ ∧ ∀ i, i < kn → V.cell? ⟨b, off + i, none⟩ = some (.int .i64 (zs.getD i 0))) := fun V hV hp => by
    obtain ⟨b, off, h1, h2⟩ := hZ hp
    exact ⟨b, off, h1, fun i hi => by rw [← h2 i hi]; exact World.cell?_of_block (hV.block b (World.block_lt_of_cell? w _ (h2 i hi)))⟩
  have C0 : Hid _ := shown_any w
  obtain ⟨T, HT⟩ : ∃ T, Hid (rightL ts = T) := ⟨_, rfl⟩
  have HTL : Hid (T.length ≤ 600) := by show _ ≤ _; rw [← HT.out]; exact right_len ts
  have HTR : Hid (∀ x ∈ T, RightT x) := by rw [← HT.out]; exact fun x hx => right_mem hx
  clear hE hZ
  go_enter Try.func4, Try.ntmps4
  go_wp2_with fail
  refine Calls.mono C0.out ?_
  rintro e w1 ⟨rfl, hb1⟩
  have HB1 : Hid (Below w.heap.size w w1) := hb1
  have C1 : Hid _ := right_any ao n c ts w1 (HE.out w1 hb1) hn
  rw [HT.out] at C1
  clear hb1 C0
  go_wp2_with fail
  refine Calls.mono C1.out ?_
  rintro e w2 ⟨v, rfl, hown2, hb2⟩
  obtain ⟨n2, HN2⟩ : ∃ k, Hid (T.length = k) := ⟨_, rfl⟩
  rw [HN2.out] at hown2 HTL
  obtain ⟨oo, oc, rfl, hov, -⟩ := own_tabsV hown2
  have HOV : Hid (TabsV w2 oo n2 T) := hov
  have HB2 : Hid (Below w.heap.size w w2) := HB1.out.trans (hb2.mono HB1.out.size)
  have C2 : Hid _ := pick_any oo n2 oc T w2 hov (by have := HTL.out; omega)
  clear hown2 hb2 hov C1
  obtain ⟨q, HQ⟩ : ∃ q, Hid ((pkL T).length = q) := ⟨_, rfl⟩
  go_wp2_with fail
  refine Calls.mono C2.out ?_
  rintro e w3 ⟨r3, k3, rfl, hi3, hb3⟩
  rw [HQ.out] at hi3 ⊢
  have HI3 : Hid (IntsV w3 r3 q (pkL T)) := hi3
  have HB3 : Hid (Below w.heap.size w w3 ∧ Below w2.heap.size w2 w3) := ⟨HB2.out.trans (hb3.mono HB2.out.size), hb3⟩
  have HOV3 : Hid (TabsV w3 oo n2 T) := HOV.out.keep hb3
  clear hi3 hb3 C2
  cases hp : pickF T with
  | none =>
    obtain ⟨p1, p2, p3⟩ := pk_none hp
    have hq0 : q = 0 := by rw [← HQ.out, p1]; rfl
    subst hq0
    rw [p2, p3]
    clear hp p1 p2 p3
    go_wp2
    go_ret
    exact ⟨rfl, HB3.out.1⟩
  | some f =>
    have HF : Hid (pickF T = some f) := hp
    have hf3 : f < 3 := pickF_lt hp
    obtain ⟨p1, p2, p3⟩ := pk_of hp
    obtain ⟨L, HL⟩ : ∃ L, Hid (inL T f = L) := ⟨_, rfl⟩
    have HLR : Hid (L.Pairwise (· < ·)) := by show List.Pairwise _ _; rw [← HL.out]; exact inL_rises T f
    have HLB : Hid (∀ j ∈ L, j < n2) := fun j hj => by rw [← HN2.out]; rw [← HL.out] at hj; exact (mem_inN.1 hj).1
    rw [p1, HL.out] at HI3 HQ
    rw [p2, p3]
    have hf1 : ((f + 1 : Nat) : Int) = (f : Int) + 1 := by omega
    rw [hf1]
    have HQL : Hid (q ≤ n2) := by show q ≤ n2; rw [← HQ.out, ← HL.out, ← HN2.out]; exact inN_le T f T.length
    have HLV : Hid (∀ j ∈ L, (T.getD j zT).lv = f ∨ (T.getD j zT).lv = (f : Int) + 1) := fun j hj => by rw [← HL.out] at hj; exact in_level hj
    clear hp p1 p2 p3 hf1
    go_upto_region 6 with fail
    go_wp2_with (refine wpList_make_flags _ rfl (.tmp 40) (.tmp 40) rfl n2 (by have := HTL.out; omega) rfl rfl ?_)
    intro w4 hfl4 hb4
    have HFL4 : Hid (FlagB w4 w3.heap.size (pkd L n2 0)) := by rw [pkd_zero]; exact hfl4
    have HB4 : Hid (Below w3.heap.size w3 w4) := hb4
    clear hfl4 hb4
    go_wp2
    go_loopw [10, 11, 12, 13] (fun rm up x _ wr => ∃ i : Nat, x = .int .i64 i ∧ i ≤ q ∧ rm = .int .i64 (ctE (tabsAt T (L.take i))) ∧ up = .int .i64 ((upC T f (L.take i) : Nat) : Int) ∧ FlagB wr w3.heap.size (pkd L n2 i) ∧ Below w3.heap.size w3 wr) (fun _ _ x _ _ => q - (intOf x).toNat)
    case atStart => exact ⟨0, rfl, by omega, rfl, rfl, HFL4.out, HB4.out⟩
    case round =>
      obtain ⟨i, rfl, hiq, rfl, rfl, hfl, hbel⟩ := hrel
      have HFL : Hid (FlagB wr w3.heap.size (pkd L n2 i)) := hfl
      have HBL : Hid (Below w3.heap.size w3 wr) := hbel
      by_cases hlt : i < q
      · have hltz : (i : Int) < (q : Int) := by omega
        have hiL : i < L.length := by rw [HQ.out]; exact hlt
        have hi6 : (i : Int) < 601 := by have := HQL.out; have := HTL.out; omega
        obtain ⟨k, HK⟩ : ∃ k, Hid (L.getD i 0 = k) := ⟨_, rfl⟩
        have hkn2 : k < n2 := by rw [← HK.out]; exact HLB.out _ (getD_memN hiL)
        obtain ⟨b, off, hro, hca⟩ := (HI3.out.keep hbel).2 (by omega)
        have e1 := hca i hlt
        rw [HK.out] at e1
        have f1 : wr.cell? ⟨w3.heap.size, k, none⟩ = some (.bool false) := by
          have := hfl.at_ (i := k) (by rw [pkd_len]; exact hkn2)
          rw [pkd_at L n2 i k hkn2, decide_eq_false (by rw [← HK.out]; exact rise_new HLR.out hiL)] at this
          exact this
        have hk1 : (k : Int) < (n2 : Int) := by omega
        have hk2 : decide ((n2 : Int) ≤ (k : Int)) = false := decide_eq_false (by omega)
        have hk3 : decide (n2 ≤ k) = false := decide_eq_false (by omega)
        have HPV : Hid (0 < i → ∃ p k0, i = p + 1 ∧ k0 < k ∧ wr.cell? ⟨b, off + p, none⟩ = some (.int .i64 (k0 : Int))) := fun h0 => by
          obtain ⟨p, rfl⟩ : ∃ p, i = p + 1 := ⟨i - 1, by omega⟩
          exact ⟨p, L.getD p 0, rfl, by rw [← HK.out]; exact rise_next HLR.out hiL, hca p (by omega)⟩
        subst hro
        clear hfl hbel hca hiL
        by_cases h0 : i = 0
        · have h0z : decide ((0 : Int) < (i : Int)) = false := decide_eq_false (by omega)
          have h0y : decide (0 < i) = false := decide_eq_false (by omega)
          have h0x : decide ((k : Int) < 0) = false := decide_eq_false (by omega)
          clear HPV h0
          go_wp2_with fail
          go_quiet (fail)
          have HBD : Hid (Below w3.heap.size w3 (wr.drewN nq)) := bel_drewN HBL.out nq
          have HFD : Hid (FlagB (wr.drewN nq) w3.heap.size (pkd L n2 i)) := HFL.out.keep (bel_drewN (Below.refl _ _) nq)
          clear e1 f1 HBL HFL
          generalize wr.drewN nq = wd at *
          have e1 : wd.cell? ⟨b, off + i, none⟩ = some (.int .i64 (k : Int)) := by
            obtain ⟨b9, o9, h9, h8⟩ := (HI3.out.keep HBD.out).2 (by omega)
            cases h9
            have := h8 i hlt
            rwa [HK.out] at this
          have f1 : wd.cell? ⟨w3.heap.size, k, none⟩ = some (.bool ((pkd L n2 i).getD k false)) := HFD.out.at_ (by rw [pkd_len]; exact hkn2)
          have f2 : wd.frozen? ⟨w3.heap.size, k, none⟩ = false := HFD.out.frozen k
          go_upto_region 15 with fail
          have HF5 : Hid (FlagB (wd.setCell ⟨w3.heap.size, k, none⟩ (.bool true)) w3.heap.size (pkd L n2 (i + 1)) ∧ Below w3.heap.size w3 (wd.setCell ⟨w3.heap.size, k, none⟩ (.bool true))) := by
            refine And.intro ?_ (HFD.out.bel HBD.out (Nat.le_refl _))
            have h9 : (pkd L n2 i).set k true = pkd L n2 (i + 1) := by rw [← HK.out]; exact pkd_set L n2 i (by rw [HQ.out]; exact hlt)
            rw [← h9]
            exact HFD.out.set
          clear e1 f1 f2 hk2 hk3 HFD HBD
          generalize wd.setCell ⟨w3.heap.size, k, none⟩ (.bool true) = w5 at *
          obtain ⟨b2, off2, hoo, hEn⟩ := (HOV3.out.keep HF5.out.2).2 (by omega)
          obtain ⟨x, HX⟩ : ∃ x, Hid (T.getD k zT = x) := ⟨_, rfl⟩
          have HRX : Hid (w5.rangeAt b2 (off2 + k * 36) (encT x)) := tabs_range hEn k (by have := HN2.out; omega) HX.out
          have HXR : Hid (RightT x) := by rw [← HX.out]; exact HTR.out _ (getD_mem (by have := HN2.out; omega))
          have HXL : Hid (x.lv = f ∨ x.lv = (f : Int) + 1) := by rw [← HX.out, ← HK.out]; exact HLV.out _ (getD_memN (by rw [HQ.out]; exact hlt))
          have HTK : Hid (L.take (i + 1) = L.take i ++ [k]) := by show _ = _; rw [← HK.out]; exact take_getD L i (by rw [HQ.out]; exact hlt)
          have e1 : w5.cell? ⟨b, off + i, none⟩ = some (.int .i64 (k : Int)) := by
            obtain ⟨b9, o9, h9, h8⟩ := (HI3.out.keep HF5.out.2).2 (by omega)
            cases h9
            have := h8 i hlt
            rwa [HK.out] at this
          subst hoo
          clear hEn
          go_wp2_with (first | (refine wpList_load_mid rfl 32 (.tmp 98) rfl b2 (off2 + k * 36) rfl (encT x) _ HRX.out Try.underlying32 rfl (sizeT x) ?_) | (refine wpList_store_box _ rfl (.tmp 13) (.tmp 99) rfl w5.heap.size rfl x rfl _ (heap_alloc_new w5 _) rfl ?_))
          intro w6 hbox hchg
          have hb6 : Below w5.heap.size w5 w6 := (bel_alloc w5 _).trans (hchg.below (Nat.le_refl _) (by simp))
          obtain ⟨c0, c1, -, -⟩ := hbox.four
          have HF6 : Hid (FlagB w6 w3.heap.size (pkd L n2 (i + 1)) ∧ Below w3.heap.size w3 w6) := ⟨HF5.out.1.keep hb6, HF5.out.2.trans (hb6.mono HF5.out.2.size)⟩
          clear hbox hchg hb6 e1
          obtain ⟨ct0, HCT⟩ : ∃ z, Hid (ctE (tabsAt T (L.take i)) = z) := ⟨_, rfl⟩
          obtain ⟨up0, HUP⟩ : ∃ z, Hid (upC T f (L.take i) = z) := ⟨_, rfl⟩
          have HCN : Hid (ctE (tabsAt T (L.take (i + 1))) = ct0 + x.ct) := by show _ = _; rw [HTK.out, tabsAt_append, ctE_app, HCT.out]; congr 1; show ctE [T.getD k zT] = _; rw [HX.out, ctE_one]
          have HUN : Hid (upC T f (L.take (i + 1)) = if x.lv = f then up0 + 1 else up0) := by show _ = _; rw [HTK.out, upC_snoc, HUP.out, HX.out]
          have hcb : 0 ≤ ct0 ∧ ct0 ≤ 100000 * 600 := by
            have h1 := ctE_le (tabsAt T (L.take i)) (tabs_take_mem (fun j hj => by rw [HN2.out]; exact HLB.out j hj) (fun y hy => by have := HTR.out y hy; unfold RightT at this; omega))
            have h2 : (tabsAt T (L.take i)).length ≤ i := by rw [tabsAt_len, List.length_take]; omega
            rw [HCT.out] at h1
            omega
          have hub : up0 < 601 := by rw [← HUP.out]; have := upC_le T f (L.take i); rw [List.length_take] at this; omega
          have hxc := HXR.out.2.2.1
          have hxd := HXR.out.2.2.2.1
          have hwc : wrap64 (ct0 + x.ct) = ct0 + x.ct := by unfold wrap64; omega
          have HWC : Hid _ := hwc
          have hwf : wrap64 ((f : Int) + 1 - 1) = (f : Int) := by unfold wrap64; omega
          rw [HCT.out, HUP.out]
          clear hcb hxc hxd hwc
          rcases HXL.out with hl | hl
          · have hl1 : (x.lv == (f : Int)) = true := by simpa using hl
            have HU2 : Hid (upC T f (L.take (i + 1)) = up0 + 1) := by show _ = _; rw [HUN.out, if_pos hl]
            clear hl HUN HXL
            go_wp2
            go_roundw
            case rel => exact ⟨i + 1, by go_num, by omega, by rw [HCN.out, HWC.out], by rw [HU2.out]; go_num, HF6.out.1, HF6.out.2⟩
            case measure => simp [intOf]; omega
          · have hl1 : (x.lv == (f : Int)) = false := by simp; omega
            have hl2 : (x.lv == (f : Int) + 1) = true := by simpa using hl
            have HU2 : Hid (upC T f (L.take (i + 1)) = up0) := by show _ = _; rw [HUN.out, if_neg (by omega)]
            clear hl HUN HXL
            go_wp2
            go_roundw
            case rel => exact ⟨i + 1, by go_num, by omega, by rw [HCN.out, HWC.out], by rw [HU2.out], HF6.out.1, HF6.out.2⟩
            case measure => simp [intOf]; omega
        · obtain ⟨p, k0, HIP, hk0, g0⟩ := HPV.out (by omega)
          subst HIP
          have h0x : decide ((k : Int) < 0) = false := decide_eq_false (by omega)
          have h1x : decide ((k : Int) ≤ (k0 : Int)) = false := decide_eq_false (by omega)
          have h1y : decide (k ≤ k0) = false := decide_eq_false (by omega)
          have hpw : wrap64 ((p : Int) + 1 - 1) = (p : Int) := by unfold wrap64; omega
          have hpw2 : IntKind.i64.wrap ((p : Int) + 1 - 1) = (p : Int) := by rw [IntKind.wrap_i64]; omega
          have hpq : (p : Int) < (q : Int) := by omega
          clear HPV h0
          go_wp2_with fail
          go_quiet (fail)
          have HBD : Hid (Below w3.heap.size w3 (wr.drewN nq)) := bel_drewN HBL.out nq
          have HFD : Hid (FlagB (wr.drewN nq) w3.heap.size (pkd L n2 (p + 1))) := HFL.out.keep (bel_drewN (Below.refl _ _) nq)
          clear e1 f1 HBL HFL g0 hpw hpw2 h1x h1y h0x hk0
          generalize wr.drewN nq = wd at *
          have e1 : wd.cell? ⟨b, off + (p + 1), none⟩ = some (.int .i64 (k : Int)) := by
            obtain ⟨b9, o9, h9, h8⟩ := (HI3.out.keep HBD.out).2 (by omega)
            cases h9
            have := h8 (p + 1) hlt
            rwa [HK.out] at this
          have f1 : wd.cell? ⟨w3.heap.size, k, none⟩ = some (.bool ((pkd L n2 (p + 1)).getD k false)) := HFD.out.at_ (by rw [pkd_len]; exact hkn2)
          have f2 : wd.frozen? ⟨w3.heap.size, k, none⟩ = false := HFD.out.frozen k
          go_upto_region 15 with fail
          have HF5 : Hid (FlagB (wd.setCell ⟨w3.heap.size, k, none⟩ (.bool true)) w3.heap.size (pkd L n2 (p + 1 + 1)) ∧ Below w3.heap.size w3 (wd.setCell ⟨w3.heap.size, k, none⟩ (.bool true))) := by
            refine And.intro ?_ (HFD.out.bel HBD.out (Nat.le_refl _))
            have h9 : (pkd L n2 (p + 1)).set k true = pkd L n2 (p + 1 + 1) := by rw [← HK.out]; exact pkd_set L n2 (p + 1) (by rw [HQ.out]; exact hlt)
            rw [← h9]
            exact HFD.out.set
          clear e1 f1 f2 hk2 hk3 HFD HBD
          generalize wd.setCell ⟨w3.heap.size, k, none⟩ (.bool true) = w5 at *
          obtain ⟨b2, off2, hoo, hEn⟩ := (HOV3.out.keep HF5.out.2).2 (by omega)
          obtain ⟨x, HX⟩ : ∃ x, Hid (T.getD k zT = x) := ⟨_, rfl⟩
          have HRX : Hid (w5.rangeAt b2 (off2 + k * 36) (encT x)) := tabs_range hEn k (by have := HN2.out; omega) HX.out
          have HXR : Hid (RightT x) := by rw [← HX.out]; exact HTR.out _ (getD_mem (by have := HN2.out; omega))
          have HXL : Hid (x.lv = f ∨ x.lv = (f : Int) + 1) := by rw [← HX.out, ← HK.out]; exact HLV.out _ (getD_memN (by rw [HQ.out]; exact hlt))
          have HTK : Hid (L.take (p + 1 + 1) = L.take (p + 1) ++ [k]) := by show _ = _; rw [← HK.out]; exact take_getD L (p + 1) (by rw [HQ.out]; exact hlt)
          have e1 : w5.cell? ⟨b, off + (p + 1), none⟩ = some (.int .i64 (k : Int)) := by
            obtain ⟨b9, o9, h9, h8⟩ := (HI3.out.keep HF5.out.2).2 (by omega)
            cases h9
            have := h8 (p + 1) hlt
            rwa [HK.out] at this
          subst hoo
          clear hEn
          go_wp2_with (first | (refine wpList_load_mid rfl 32 (.tmp 98) rfl b2 (off2 + k * 36) rfl (encT x) _ HRX.out Try.underlying32 rfl (sizeT x) ?_) | (refine wpList_store_box _ rfl (.tmp 13) (.tmp 99) rfl w5.heap.size rfl x rfl _ (heap_alloc_new w5 _) rfl ?_))
          intro w6 hbox hchg
          have hb6 : Below w5.heap.size w5 w6 := (bel_alloc w5 _).trans (hchg.below (Nat.le_refl _) (by simp))
          obtain ⟨c0, c1, -, -⟩ := hbox.four
          have HF6 : Hid (FlagB w6 w3.heap.size (pkd L n2 (p + 1 + 1)) ∧ Below w3.heap.size w3 w6) := ⟨HF5.out.1.keep hb6, HF5.out.2.trans (hb6.mono HF5.out.2.size)⟩
          clear hbox hchg hb6 e1
          obtain ⟨ct0, HCT⟩ : ∃ z, Hid (ctE (tabsAt T (L.take (p + 1))) = z) := ⟨_, rfl⟩
          obtain ⟨up0, HUP⟩ : ∃ z, Hid (upC T f (L.take (p + 1)) = z) := ⟨_, rfl⟩
          have HCN : Hid (ctE (tabsAt T (L.take (p + 1 + 1))) = ct0 + x.ct) := by show _ = _; rw [HTK.out, tabsAt_append, ctE_app, HCT.out]; congr 1; show ctE [T.getD k zT] = _; rw [HX.out, ctE_one]
          have HUN : Hid (upC T f (L.take (p + 1 + 1)) = if x.lv = f then up0 + 1 else up0) := by show _ = _; rw [HTK.out, upC_snoc, HUP.out, HX.out]
          have hcb : 0 ≤ ct0 ∧ ct0 ≤ 100000 * 600 := by
            have h1 := ctE_le (tabsAt T (L.take (p + 1))) (tabs_take_mem (fun j hj => by rw [HN2.out]; exact HLB.out j hj) (fun y hy => by have := HTR.out y hy; unfold RightT at this; omega))
            have h2 : (tabsAt T (L.take (p + 1))).length ≤ p + 1 := by rw [tabsAt_len, List.length_take]; omega
            rw [HCT.out] at h1
            omega
          have hub : up0 < 601 := by rw [← HUP.out]; have := upC_le T f (L.take (p + 1)); rw [List.length_take] at this; omega
          have hxc := HXR.out.2.2.1
          have hxd := HXR.out.2.2.2.1
          have hwc : wrap64 (ct0 + x.ct) = ct0 + x.ct := by unfold wrap64; omega
          have HWC : Hid _ := hwc
          have hwf : wrap64 ((f : Int) + 1 - 1) = (f : Int) := by unfold wrap64; omega
          rw [HCT.out, HUP.out]
          clear hcb hxc hxd hwc
          rcases HXL.out with hl | hl
          · have hl1 : (x.lv == (f : Int)) = true := by simpa using hl
            have HU2 : Hid (upC T f (L.take (p + 1 + 1)) = up0 + 1) := by show _ = _; rw [HUN.out, if_pos hl]
            clear hl HUN HXL
            go_wp2
            go_roundw
            case rel => exact ⟨p + 1 + 1, by go_num, by omega, by rw [HCN.out, HWC.out], by rw [HU2.out]; go_num, HF6.out.1, HF6.out.2⟩
            case measure => simp [intOf]; omega
          · have hl1 : (x.lv == (f : Int)) = false := by simp; omega
            have hl2 : (x.lv == (f : Int) + 1) = true := by simpa using hl
            have HU2 : Hid (upC T f (L.take (p + 1 + 1)) = up0) := by show _ = _; rw [HUN.out, if_neg (by omega)]
            clear hl HUN HXL
            go_wp2
            go_roundw
            case rel => exact ⟨p + 1 + 1, by go_num, by omega, by rw [HCN.out, HWC.out], by rw [HU2.out], HF6.out.1, HF6.out.2⟩
            case measure => simp [intOf]; omega

      · have hltz : ¬ (i : Int) < (q : Int) := by omega
        obtain rfl : i = q := by omega
        have HLT : Hid (L.take i = L) := List.take_of_length_le (by rw [HQ.out]; omega)
        have hTLn := HN2.out
        have HFE : Hid (FlagB wr w3.heap.size ((List.range n2).map (inB T f))) := by
          show FlagB _ _ _
          have h1 := pkd_all T f
          rw [HL.out, HN2.out, HQ.out] at h1
          rw [← h1]; exact HFL.out
        have HUP : Hid (0 < upC T f L) := by show 0 < _; rw [← HL.out]; exact upC_pos HF.out
        obtain ⟨R, HR⟩ : ∃ R, Hid (ctE (tabsAt T L) = R) := ⟨_, rfl⟩
        obtain ⟨U, HU⟩ : ∃ U, Hid (upC T f L = U) := ⟨_, rfl⟩
        have HRB : Hid (0 ≤ R ∧ R ≤ 38400) := by
          show 0 ≤ R ∧ R ≤ 38400
          rw [← HR.out]
          have h0 : ∀ (P : List Tb), (∀ x ∈ P, 0 ≤ x.ct ∧ x.ct ≤ 64) → 0 ≤ ctE P ∧ ctE P ≤ P.length * 64 := fun P => by
            induction P with
            | nil => intro _; simp [ctE]
            | cons x l ih =>
              intro h
              have h1 := ih (fun y hy => h y (by simp [hy]))
              have h2 := h x (by simp)
              have e1 : ctE (x :: l) = x.ct + ctE l := by simp [ctE]
              rw [e1, List.length_cons]
              omega
          have h1 := h0 (tabsAt T L) (fun x hx => by
            have := HTR.out x (by rw [← HL.out] at hx; exact mem_in hx)
            unfold RightT at this; omega)
          have h2 : (tabsAt T L).length = i := by rw [tabsAt_len]; exact HQ.out
          have h3 := HQL.out; have h4 := HTL.out
          omega
        rw [HU.out] at HUP
        rw [HLT.out, HR.out, HU.out]
        obtain ⟨wo, hwo⟩ : ∃ W, W = wr := ⟨_, rfl⟩
        subst hwo
        clear hfl hbel HFL
        go_wp2
        go_loopw [14, 15] (fun o x wr => ∃ p : Nat, x = .int .i64 p ∧ p ≤ n2 ∧ wr.ownsRow wo.heap.size 32 36 o (outN T f p).length (flatT (tabsAt T (outN T f p))) ∧ Below wo.heap.size wo wr) (fun _ x _ => n2 - (intOf x).toNat)
        case atStart => exact ⟨0, rfl, by omega, own_emptyT wo, bel_alloc _ _⟩
        case round =>
          obtain ⟨p, rfl, hpn, hown, hbel⟩ := hrel
          have HOW : Hid (wr.ownsRow wo.heap.size 32 36 u14 (outN T f p).length (flatT (tabsAt T (outN T f p))) ∧ Below wo.heap.size wo wr) := And.intro hown hbel
          by_cases hlt2 : p < n2
          · have hltz2 : (p : Int) < (n2 : Int) := by omega
            have hp6 : (p : Int) < 601 := by have := HTL.out; omega
            have f1 : wr.cell? ⟨w3.heap.size, p, none⟩ = some (.bool (inB T f p)) := by
              have := (HFE.out.keep hbel).at_ (i := p) (by simp; exact hlt2)
              rw [this]
              simp [hlt2]
            obtain ⟨b2, off2, hoo, hEn⟩ := ((HOV3.out.keep HBL.out).keep hbel).2 (by omega)
            obtain ⟨x, HX⟩ : ∃ x, Hid (T.getD p zT = x) := ⟨_, rfl⟩
            have HRX : Hid (wr.rangeAt b2 (off2 + p * 36) (encT x)) := tabs_range hEn p (by omega) HX.out
            have HSU : Hid _ := outN_succ T f p
            obtain ⟨D, HD⟩ : ∃ D, Hid (outN T f p = D) := ⟨_, rfl⟩
            have HDL : Hid (D.length ≤ 600) := by show _ ≤ _; rw [← HD.out]; have := outN_le T f p; have := HTL.out; omega
            rw [HD.out] at HOW HSU
            subst hoo
            clear hEn hown hbel
            cases hib : inB T f p with
            | true =>
              have HIS : Hid (outN T f (p + 1) = D) := by show _ = _; rw [HSU.out, hib]; rfl
              rw [hib] at f1
              clear hib HSU
              go_wp2
              go_roundw
              case rel => exact ⟨p + 1, by go_num, by omega, by rw [HIS.out]; exact HOW.out.1, HOW.out.2⟩
              case measure => simp [intOf]; omega
            | false =>
              have HIS : Hid (outN T f (p + 1) = D ++ [p]) := by show _ = _; rw [HSU.out, hib]; rfl
              rw [hib] at f1
              have HTS : Hid (tabsAt T (D ++ [p]) = tabsAt T D ++ [x]) := by show _ = _; rw [tabsAt_append]; congr 1; show [T.getD p zT] = _; rw [HX.out]
              have HDT : Hid ((tabsAt T D).length = D.length) := tabsAt_len T D
              have HO5 : Hid ((wr.alloc (.cells (encT x).toArray 32)).ownsRow wo.heap.size 32 36 u14 D.length (flatT (tabsAt T D))) := HOW.out.1.alloc _
              have HS5 : Hid (wo.heap.size ≤ (wr.alloc (.cells (encT x).toArray 32)).heap.size) := by show _ ≤ _; have := HOW.out.2.size; simp; omega
              go_upto_region 26 with fail
              clear hib HSU f1
              go_wp2_with (first | (refine wpList_load_mid rfl 32 (.tmp 130) rfl b2 (off2 + p * 36) rfl (encT x) _ HRX.out Try.underlying32 rfl (sizeT x) ?_) | (refine wpList_build_tab _ rfl (.tmp 131) rfl x rfl ?_) | (at_builtin; refine wpList_append_tabs _ rfl (.tmp 127) (.tmp 132) rfl wo.heap.size _ D.length (tabsAt T D) rfl HO5.out HS5.out _ 1 1 [x] rfl (tabsV_one wr x) (fun h => by cases h) (by have := HDL.out; omega) ?_))
              intro v' w6 hown6 hb6
              have HN : Hid (w6.ownsRow wo.heap.size 32 36 v' (D ++ [p]).length (flatT (tabsAt T (D ++ [p]))) ∧ Below wo.heap.size wo w6) := And.intro (by rw [HTS.out]; simpa [HDT.out] using hown6) ((HOW.out.2.alloc HOW.out.2.size _).trans hb6)
              clear hown6 hb6
              go_wp2
              go_roundw
              case rel => exact ⟨p + 1, by go_num, by omega, by rw [HIS.out]; exact HN.out.1, HN.out.2⟩
              case measure => simp [intOf]; omega
          · have hltz2 : ¬ (p : Int) < (n2 : Int) := by omega
            obtain rfl : p = n2 := by omega
            obtain ⟨O, HOO⟩ : ∃ O, Hid (tabsAt T (outN T f p) = O) := ⟨_, rfl⟩
            have HOL : Hid (O.length ≤ 600) := by show _ ≤ _; rw [← HOO.out, tabsAt_len]; have := outN_le T f p; have := HTL.out; omega
            have HOM : Hid (∀ x ∈ O, x ∈ T) := fun x hx => by rw [← HOO.out] at hx; exact mem_out (by rw [hTLn]; exact hx)
            have HOE : Hid (wr.ownsRow wo.heap.size 32 36 u14 O.length (flatT O)) := by
              show World.ownsRow _ _ _ _ _ _ _
              rw [← HOO.out, tabsAt_len]; exact HOW.out.1
            have HBY : Hid (Below wo.heap.size wo wr) := hbel
            obtain ⟨wy, hwy⟩ : ∃ W, W = wr := ⟨_, rfl⟩
            subst hwy
            have HWO : Hid (Below w.heap.size w wo) := HB3.out.1.trans (HBL.out.mono HB3.out.1.size)
            obtain ⟨Rn, HRN⟩ : ∃ Rn : Nat, Hid (R = (Rn : Int) ∧ Rn ≤ 38400) := ⟨R.toNat, by have := HRB.out; show _ ∧ _; omega⟩
            rw [HRN.out.1]
            clear hown hbel HOW
            go_wp2
            go_loopw [10, 14, 16, 17] (fun rm o x _ wr => ∃ (s rn : Nat) (N : List Tb), x = .int .i64 s ∧ s ≤ 50 ∧ rm = .int .i64 (rn : Int) ∧ Hid (ctE N + rn = R ∧ (∀ x ∈ N, x.lv = (f : Int) + 1 ∧ 0 ≤ x.lv ∧ x.lv ≤ 3 ∧ 0 ≤ x.ct ∧ x.ct ≤ 100000) ∧ N.length ≤ 50 ∧ rn ≤ 38400 ∧ N.length = s) ∧ wr.ownsRow wo.heap.size 32 36 o (O ++ N).length (flatT (O ++ N)) ∧ Below wo.heap.size wo wr) (fun _ _ x _ _ => 50 - (intOf x).toNat)
            case atStart => exact ⟨0, Rn, [], rfl, by omega, rfl, (by show _ ∧ _; refine ⟨by rw [HRN.out.1]; simp [ctE], fun x hx => (by cases hx), by simp, HRN.out.2, rfl⟩), by rw [List.append_nil]; exact HOE.out, HBY.out⟩
            case round =>
              obtain ⟨s, rn, N, rfl, hs50, rfl, HNN, hown, hbel⟩ := hrel
              have HOW : Hid (wr.ownsRow wo.heap.size 32 36 u14 (O ++ N).length (flatT (O ++ N)) ∧ Below wo.heap.size wo wr) := And.intro hown hbel
              clear hown hbel
              by_cases h1 : s < kn
              · have h1z : (s : Int) < (kn : Int) := by omega
                by_cases h2 : s < 50
                · have h2z : (s : Int) < 50 := by omega
                  by_cases h3 : 0 < rn
                  · have h3z : (0 : Int) < (rn : Int) := by omega
                    obtain ⟨b, off, hko, hcz⟩ := HZ.out wr (HWO.out.trans (HOW.out.2.mono HWO.out.size)) (by omega)
                    have e1 := hcz s h1
                    obtain ⟨z, HZZ⟩ : ∃ z, Hid (zs.getD s 0 = z) := ⟨_, rfl⟩
                    rw [HZZ.out] at e1
                    obtain ⟨r, k, hr1, hr2, hr3, hk⟩ := bit_rem z rn h3
                    have hnz : ¬ (rn : Int) = 0 := by omega
                    have HRL : Hid (rn ≤ 38400) := HNN.out.2.2.2.1
                    obtain ⟨rm, HRM⟩ : ∃ rm : Nat, Hid (rn = rm + 1 + k) := ⟨rn - 1 - k, by show _ = _; omega⟩
                    have HNX : Hid (ctE (N ++ [mkT ((f : Int) + 1) (1 + (k : Int)) ⟨#[]⟩ ⟨#[]⟩]) + rm = R ∧ (∀ x ∈ N ++ [mkT ((f : Int) + 1) (1 + (k : Int)) ⟨#[]⟩ ⟨#[]⟩], x.lv = (f : Int) + 1 ∧ 0 ≤ x.lv ∧ x.lv ≤ 3 ∧ 0 ≤ x.ct ∧ x.ct ≤ 100000) ∧ (N ++ [mkT ((f : Int) + 1) (1 + (k : Int)) ⟨#[]⟩ ⟨#[]⟩]).length ≤ 50 ∧ rm ≤ 38400 ∧ (N ++ [mkT ((f : Int) + 1) (1 + (k : Int)) ⟨#[]⟩ ⟨#[]⟩]).length = s + 1) := by
                      obtain ⟨g1, g2, g3, g4, g5⟩ := HNN.out
                      have g6 := HRM.out
                      refine ⟨?_, ?_, by simp; omega, by omega, by simp; omega⟩
                      · rw [ctE_app, ctE_one]; show ctE N + (1 + (k : Int)) + rm = R; omega
                      · intro x hx
                        rcases List.mem_append.1 hx with h | h
                        · exact g2 x h
                        · rw [List.mem_singleton.1 h]
                          show (f : Int) + 1 = (f : Int) + 1 ∧ 0 ≤ (f : Int) + 1 ∧ (f : Int) + 1 ≤ 3 ∧ 0 ≤ 1 + (k : Int) ∧ 1 + (k : Int) ≤ 100000
                          have := HRL.out
                          omega
                    have HB0 : Hid _ := built01 ((f : Int) + 1) (1 + (k : Int))
                    obtain ⟨y, HY⟩ : ∃ y, Hid (mkT ((f : Int) + 1) (1 + (k : Int)) ⟨#[]⟩ ⟨#[]⟩ = y) := ⟨_, rfl⟩
                    rw [HY.out] at HNX HB0
                    have HO5 : Hid ((wr.alloc (.cells (encT y).toArray 32)).ownsRow wo.heap.size 32 36 u14 (O ++ N).length (flatT (O ++ N))) := HOW.out.1.alloc _
                    have HS5 : Hid (wo.heap.size ≤ (wr.alloc (.cells (encT y).toArray 32)).heap.size) := by show _ ≤ _; have := HOW.out.2.size; simp; omega
                    have HLN : Hid ((O ++ N).length ≤ 700) := by show _ ≤ _; rw [List.length_append]; have := HOL.out; have := HNN.out.2.2.1; omega
                    have hs51 : (s : Int) < 51 := by omega
                    have hw1 := less_w1 (k := k) HRL.out HRM.out
                    have hw2 := less_w2 (k := k) HRL.out HRM.out
                    have hw3 := less_w3 (k := k) HRL.out HRM.out
                    subst hko
                    clear hcz hr2 hk HNN h1 h2 h3
                    obtain ⟨M, HM⟩ : ∃ M, Hid (O ++ N = M) := ⟨_, rfl⟩
                    rw [HM.out] at HO5 HLN
                    go_upto_region 32 with fail
                    simp only [hw1]
                    clear hw1 hw2 hw3 hr1 hr3
                    go_wp2_with (first | (refine wpList_build_to rfl 32 _ rfl (encT y).toArray ((by go_simp : Try.prog.built 32 _ = Try.prog.built 32 [(0, .int .i64 ((f : Int) + 1)), (1, .int .i64 (1 + (k : Int)))]).trans HB0.out) ?_) | (refine wpList_build_tab _ rfl (.tmp 162) rfl y rfl ?_) | (at_builtin; refine wpList_append_tabs _ rfl (.tmp 159) (.tmp 163) rfl wo.heap.size _ M.length M rfl HO5.out HS5.out _ 1 1 [y] rfl (tabsV_one wr y) (fun h => by cases h) (by have := HLN.out; omega) ?_))
                    intro v' w6 hown6 hb6
                    have HNR : Hid (w6.ownsRow wo.heap.size 32 36 v' (O ++ (N ++ [y])).length (flatT (O ++ (N ++ [y])))) := by show World.ownsRow _ _ _ _ _ _ _; rw [← List.append_assoc, HM.out]; simpa using hown6
                    have HBN : Hid (Below wo.heap.size wo w6) := (HOW.out.2.alloc HOW.out.2.size _).trans hb6
                    clear hown6 hb6
                    go_wp2
                    go_roundw
                    case rel => exact ⟨s + 1, rm, N ++ [y], by go_num, by omega, rfl, HNX, HNR.out, HBN.out⟩
                    case measure => simp [intOf]; omega
                  · have h3z : ¬ (0 : Int) < (rn : Int) := by omega
                    go_upto_region 33 with fail
                    obtain ⟨vb, cb, rfl, hbv, -, -, -, -⟩ := own_tabsV HOW.out.1
                    have HBV : Hid (TabsV wr vb (O ++ N).length (O ++ N)) := hbv
                    clear hbv
                    have HBW : Hid (Below w.heap.size w wr) := HWO.out.trans (HOW.out.2.mono HWO.out.size)
                    have S1 : Hid _ := score_any vb (O ++ N).length cb (O ++ N) wr HBV.out (by rw [List.length_append]; have h1 := HOL.out; have h2 := HNN.out.2.2.1; omega) enters26
                    have S2 : Hid (∀ W, Below wr.heap.size wr W → Calls Try.prog 12 #[.slice oo p oc] W fun e w' => e = .returned (.int .i64 (scN T p)) ∧ Below W.heap.size W w') := fun W hW => score_any oo p oc T W (((HOV3.out.keep HBL.out).keep HOW.out.2).keep hW) (by have := HTL.out; omega) enters26
                    have HSA : Hid (scN (O ++ N) (O ++ N).length = scE (O ++ N)) := sc_all _ (fun x hx => by
                      rcases List.mem_append.1 hx with h | h
                      · exact (HTR.out x (HOM.out x h)).ok
                      · have := HNN.out.2.1 x h; unfold OkT; omega) (by rw [List.length_append]; have h1 := HOL.out; have h2 := HNN.out.2.2.1; omega)
                    have HSB : Hid (scN T p = scE T) := by
                      have h1 := sc_all T (fun x hx => (HTR.out x hx).ok) (by have := HTL.out; omega)
                      rw [HN2.out] at h1; exact h1
                    have HLS : Hid (scE (O ++ N) < scE T) := by
                      show scE (O ++ N) < scE T
                      have h1 := less_math (N := N) HF.out (fun x hx => by have := HTR.out x hx; unfold RightT at this; omega) (fun x hx => (HNN.out.2.1 x hx).1) (by have h2 := HNN.out.1; have h3 := HR.out; rw [HL.out]; omega) hf3
                      rw [HN2.out, HOO.out] at h1; exact h1
                    obtain ⟨sa, HA⟩ : ∃ z, Hid (scE (O ++ N) = z) := ⟨_, rfl⟩
                    obtain ⟨sb, HSB2⟩ : ∃ z, Hid (scE T = z) := ⟨_, rfl⟩
                    rw [HSA.out, HA.out] at S1
                    rw [HSB.out, HSB2.out] at S2
                    rw [HA.out, HSB2.out] at HLS
                    have hls := HLS.out
                    have hu0 := HUP.out
                    have huz : (0 : Int) < (U : Int) := by omega
                    have hz1 : (1 : Int) ≤ (f : Int) + 1 := by omega
                    have hz3 : (f : Int) + 1 ≤ 3 := by omega
                    obtain ⟨lb, HLB2⟩ : ∃ l, Hid ((O ++ N).length = l) := ⟨_, rfl⟩
                    rw [HLB2.out] at S1 ⊢
                    clear hu0
                    clear h1z h2z h3z
                    go_wp2_with fail
                    refine Calls.mono S1.out ?_
                    rintro e wa ⟨rfl, hba⟩
                    have HBA : Hid (Below wr.heap.size wr wa) := hba
                    clear hba S1
                    go_wp2_with fail
                    refine (S2.out wa HBA.out).mono ?_
                    rintro e wb ⟨rfl, hbb⟩
                    have HBB : Hid (Below w.heap.size w wb) := HBW.out.trans ((HBA.out.trans (hbb.mono HBA.out.size)).mono HBW.out.size)
                    clear hbb S2
                    go_wp2
                    go_ret
                    exact ⟨rfl, HBB.out⟩
                · have h2z : ¬ (s : Int) < 50 := by omega
                  go_upto_region 33 with fail
                  obtain ⟨vb, cb, rfl, hbv, -, -, -, -⟩ := own_tabsV HOW.out.1
                  have HBV : Hid (TabsV wr vb (O ++ N).length (O ++ N)) := hbv
                  clear hbv
                  have HBW : Hid (Below w.heap.size w wr) := HWO.out.trans (HOW.out.2.mono HWO.out.size)
                  have S1 : Hid _ := score_any vb (O ++ N).length cb (O ++ N) wr HBV.out (by rw [List.length_append]; have h1 := HOL.out; have h2 := HNN.out.2.2.1; omega) enters26
                  have S2 : Hid (∀ W, Below wr.heap.size wr W → Calls Try.prog 12 #[.slice oo p oc] W fun e w' => e = .returned (.int .i64 (scN T p)) ∧ Below W.heap.size W w') := fun W hW => score_any oo p oc T W (((HOV3.out.keep HBL.out).keep HOW.out.2).keep hW) (by have := HTL.out; omega) enters26
                  have HSA : Hid (scN (O ++ N) (O ++ N).length = scE (O ++ N)) := sc_all _ (fun x hx => by
                    rcases List.mem_append.1 hx with h | h
                    · exact (HTR.out x (HOM.out x h)).ok
                    · have := HNN.out.2.1 x h; unfold OkT; omega) (by rw [List.length_append]; have h1 := HOL.out; have h2 := HNN.out.2.2.1; omega)
                  have HSB : Hid (scN T p = scE T) := by
                    have h1 := sc_all T (fun x hx => (HTR.out x hx).ok) (by have := HTL.out; omega)
                    rw [HN2.out] at h1; exact h1
                  have HLS : Hid (scE (O ++ N) < scE T) := by
                    show scE (O ++ N) < scE T
                    have h1 := less_math (N := N) HF.out (fun x hx => by have := HTR.out x hx; unfold RightT at this; omega) (fun x hx => (HNN.out.2.1 x hx).1) (by have h2 := HNN.out.1; have h3 := HR.out; rw [HL.out]; omega) hf3
                    rw [HN2.out, HOO.out] at h1; exact h1
                  obtain ⟨sa, HA⟩ : ∃ z, Hid (scE (O ++ N) = z) := ⟨_, rfl⟩
                  obtain ⟨sb, HSB2⟩ : ∃ z, Hid (scE T = z) := ⟨_, rfl⟩
                  rw [HSA.out, HA.out] at S1
                  rw [HSB.out, HSB2.out] at S2
                  rw [HA.out, HSB2.out] at HLS
                  have hls := HLS.out
                  have hu0 := HUP.out
                  have huz : (0 : Int) < (U : Int) := by omega
                  have hz1 : (1 : Int) ≤ (f : Int) + 1 := by omega
                  have hz3 : (f : Int) + 1 ≤ 3 := by omega
                  obtain ⟨lb, HLB2⟩ : ∃ l, Hid ((O ++ N).length = l) := ⟨_, rfl⟩
                  rw [HLB2.out] at S1 ⊢
                  clear hu0
                  clear h1z h2z
                  go_wp2_with fail
                  refine Calls.mono S1.out ?_
                  rintro e wa ⟨rfl, hba⟩
                  have HBA : Hid (Below wr.heap.size wr wa) := hba
                  clear hba S1
                  go_wp2_with fail
                  refine (S2.out wa HBA.out).mono ?_
                  rintro e wb ⟨rfl, hbb⟩
                  have HBB : Hid (Below w.heap.size w wb) := HBW.out.trans ((HBA.out.trans (hbb.mono HBA.out.size)).mono HBW.out.size)
                  clear hbb S2
                  go_wp2
                  go_ret
                  exact ⟨rfl, HBB.out⟩
              · have h1z : ¬ (s : Int) < (kn : Int) := by omega
                go_upto_region 33 with fail
                obtain ⟨vb, cb, rfl, hbv, -, -, -, -⟩ := own_tabsV HOW.out.1
                have HBV : Hid (TabsV wr vb (O ++ N).length (O ++ N)) := hbv
                clear hbv
                have HBW : Hid (Below w.heap.size w wr) := HWO.out.trans (HOW.out.2.mono HWO.out.size)
                have S1 : Hid _ := score_any vb (O ++ N).length cb (O ++ N) wr HBV.out (by rw [List.length_append]; have h1 := HOL.out; have h2 := HNN.out.2.2.1; omega) enters26
                have S2 : Hid (∀ W, Below wr.heap.size wr W → Calls Try.prog 12 #[.slice oo p oc] W fun e w' => e = .returned (.int .i64 (scN T p)) ∧ Below W.heap.size W w') := fun W hW => score_any oo p oc T W (((HOV3.out.keep HBL.out).keep HOW.out.2).keep hW) (by have := HTL.out; omega) enters26
                have HSA : Hid (scN (O ++ N) (O ++ N).length = scE (O ++ N)) := sc_all _ (fun x hx => by
                  rcases List.mem_append.1 hx with h | h
                  · exact (HTR.out x (HOM.out x h)).ok
                  · have := HNN.out.2.1 x h; unfold OkT; omega) (by rw [List.length_append]; have h1 := HOL.out; have h2 := HNN.out.2.2.1; omega)
                have HSB : Hid (scN T p = scE T) := by
                  have h1 := sc_all T (fun x hx => (HTR.out x hx).ok) (by have := HTL.out; omega)
                  rw [HN2.out] at h1; exact h1
                have HLS : Hid (scE (O ++ N) < scE T) := by
                  show scE (O ++ N) < scE T
                  have h1 := less_math (N := N) HF.out (fun x hx => by have := HTR.out x hx; unfold RightT at this; omega) (fun x hx => (HNN.out.2.1 x hx).1) (by have h2 := HNN.out.1; have h3 := HR.out; rw [HL.out]; omega) hf3
                  rw [HN2.out, HOO.out] at h1; exact h1
                obtain ⟨sa, HA⟩ : ∃ z, Hid (scE (O ++ N) = z) := ⟨_, rfl⟩
                obtain ⟨sb, HSB2⟩ : ∃ z, Hid (scE T = z) := ⟨_, rfl⟩
                rw [HSA.out, HA.out] at S1
                rw [HSB.out, HSB2.out] at S2
                rw [HA.out, HSB2.out] at HLS
                have hls := HLS.out
                have hu0 := HUP.out
                have huz : (0 : Int) < (U : Int) := by omega
                have hz1 : (1 : Int) ≤ (f : Int) + 1 := by omega
                have hz3 : (f : Int) + 1 ≤ 3 := by omega
                obtain ⟨lb, HLB2⟩ : ∃ l, Hid ((O ++ N).length = l) := ⟨_, rfl⟩
                rw [HLB2.out] at S1 ⊢
                clear hu0
                clear h1z
                go_wp2_with fail
                refine Calls.mono S1.out ?_
                rintro e wa ⟨rfl, hba⟩
                have HBA : Hid (Below wr.heap.size wr wa) := hba
                clear hba S1
                go_wp2_with fail
                refine (S2.out wa HBA.out).mono ?_
                rintro e wb ⟨rfl, hbb⟩
                have HBB : Hid (Below w.heap.size w wb) := HBW.out.trans ((HBA.out.trans (hbb.mono HBA.out.size)).mono HBW.out.size)
                clear hbb S2
                go_wp2
                go_ret
                exact ⟨rfl, HBB.out⟩
end Go.Proofs.Ytnkbhojflcckmaa
