/-
  What block.list answers: a contract over this translation.
-/
import Derived.Test.YteemfhhhdhddhaaEntC
import Derived.Test.YteemfhhhdhddhaaAppG
import Derived.Test.YteemfhhhdhddhaaDefP
namespace Go.Proofs.Yteemfhhhdhddhaa
open Go.RowKit Go.Sort Go.Shelf
set_option linter.unusedSectionVars false
variable [Inhabited E] [DecidableEq E]
def ListSays (bs : List UInt8) (base : Nat) (e : Ending) (w' : World) : Prop :=
  (e = .panicked nb ∧ ∀ l, fitB l = true → blockB l ≠ bs) ∨ ∃ l v, e = .returned v ∧ fitB l = true ∧ blockB l = bs ∧ (∀ l0, fitB l0 = true → blockB l0 = bs → l0 = l) ∧ w'.ownsRow base 23 4 v l.length (flatE l)
def placesN (l : List E) (a : Nat) : List UInt8 := if l.length % 8 = 0 then placesB l l.length ++ fixB a else placesB l l.length
theorem places_snoc (l : List E) (e : E) (a : Nat) (h : (bodyB l l.length).length = a) : placesB (l ++ [e]) (l ++ [e]).length = placesN l a := by
  rw [List.length_append, List.length_singleton, placesB, placesB_app, bodyB_app, h, placesN]
theorem last_snoc (l : List E) (e : E) : lastK (l ++ [e]) (l ++ [e]).length = e.key := by
  rw [List.length_append, List.length_singleton, lastK, if_neg (by omega), Nat.add_sub_cancel, get_app_at]
theorem ahead_last (l : List E) (h : ¬ l.length % 8 = 0) : lastK l l.length = aheadK l l.length := by
  unfold lastK aheadK
  rw [if_neg h, if_neg (fun h0 => h (by rw [h0]))]
theorem par_len {body : List UInt8} {l : List E} {a : Nat} (h : ParInv body l a) : (bodyB l l.length).length = a := by
  rw [h.pre, List.length_take, Nat.min_eq_left h.le]
theorem own_out {w : World} {base : Nat} {v : Value} {l : List E} (h : w.ownsRow base 23 4 v l.length (flatE l)) : ∃ ao c, v = .slice ao l.length c ∧ EntsV w ao l.length l := own_entsV h rfl
theorem own_gb {w w' : World} {base n g : Nat} {v : Value} {xs : List Value} (h : w.ownsRow base 23 4 v n xs) (hg : w.grownBy w' (some g)) (hgb : g < base) : w'.ownsRow base 23 4 v n xs := by
  refine ⟨h.1, ?_⟩
  rcases h.2 with h2 | ⟨k, cap, cur, h1, h2, h3, h4⟩
  · exact .inl h2
  · refine .inr ⟨k, cap, cur, h1, h2, ?_, h4⟩
    rw [hg.block k (Array.getElem?_eq_some_iff.1 h3).1 (fun e => by cases e; omega)]
    exact h3
theorem num8 {a : Nat} (h : a % 8 = 0) : ((a : Int) % 8 == 0) = true := by simp; omega
theorem num8n {a : Nat} (h : ¬ a % 8 = 0) : ((a : Int) % 8 == 0) = false := by simp; omega
theorem wrapu32 {a n : Nat} (h : a < n) (hn : n ≤ 1000000) : IntKind.u32.wrap (a : Int) = a := by rw [IntKind.wrap_u32]; omega
theorem lt_z {a b : Nat} (h : a < b) : (a : Int) < (b : Int) := by omega
theorem nlt_z {a b : Nat} (h : ¬ a < b) : ¬ (a : Int) < (b : Int) := by omega
theorem dec_no {a b : Nat} (h : ¬ a < b) : decide (a < b) = false := by simp; omega
theorem dec_noz {a b : Nat} (h : ¬ a < b) : decide ((a : Int) < (b : Int)) = false := by simp; omega
theorem foot_nums {n f : Nat} (hle : (f + 1) * 4 ≤ n) : n - (f + 1) * 4 < n ∧ n - (f + 1) * 4 + (f + 1) * 4 = n := by omega
theorem pl_len (l : List E) (h : l.length ≤ 64) : (placesB l l.length).length ≤ 100 := by rw [placesB_len]; omega
theorem pn_len (l : List E) (a : Nat) (h : l.length ≤ 64) : (placesN l a).length ≤ 104 := by
  have := pl_len l h
  unfold placesN
  split
  · rw [List.length_append, fixB_len]; omega
  · omega
set_option maxRecDepth 100000 in
set_option maxHeartbeats 4000000 in
theorem list_any (ao : Option Addr) (n c : Nat) (bs : List UInt8) (w : World) (hb : Bytes w ao n bs) (hnc : n ≤ c) (hc : c ≤ 9223372036854775807) (hn : n ≤ 1000000) :
    Calls Try.prog 65 #[.slice ao n c] w fun e w' => Below w.heap.size w w' ∧ ListSays bs w.heap.size e w' := by
  have HL : Hid (bs.length = n) := hb.1
  have CF := footAt_any ao n c bs w hb hnc hn hc
  by_cases hf : 4 ≤ n ∧ (footN bs + 1) * 4 ≤ n
  case neg =>
    have HNO : Hid (∀ l, fitB l = true → blockB l ≠ bs) := fun l h1 h2 => by
      have h3 := foot_block h1 h2
      rw [HL.out] at h3
      exact hf ⟨h3.1, h3.2.1⟩
    simp only [if_neg hf] at CF
    have HCF : Hid _ := CF
    clear CF hf hb
    go_enter Try.func65, Try.ntmps65
    go_wp2_with fail
    refine Calls.mono HCF.out ?_
    rintro e w1 ⟨hb1, rfl⟩
    exact ⟨rfl, hb1, .inl ⟨rfl, HNO.out⟩⟩
  case pos =>
  simp only [if_pos hf] at CF
  obtain ⟨b, off, rfl, hcell0⟩ := bytes_at hb (Nat.lt_of_lt_of_le (by decide) hf.1)
  have HBL : Hid (b < w.heap.size) := World.block_lt_of_cell? w _ (hcell0 0 (by have := hf.1; rw [hb.1]; omega))
  obtain ⟨m, HM⟩ : ∃ m, Hid (n - (footN bs + 1) * 4 = m) := ⟨_, rfl⟩
  have HFN := foot_nums hf.2
  rw [HM.out] at CF HFN
  have HPE : Hid (∀ l a, ParInv (bs.take m) l a → ¬ a < m → (1 ≤ l.length ∧ sortedB l = true ∧ bs.drop m = placesB l l.length ++ fixB ((placesB l l.length).length / 4) → fitB l = true ∧ blockB l = bs) ∧ (∀ l0, fitB l0 = true → blockB l0 = bs → l0 = l)) := by
    intro l a h1 h2
    have h3 := par_end (bs := bs) (l := l) (at_ := a) (by rw [HL.out]; exact hf.2)
    rw [HL.out, HM.out] at h3
    exact h3 h1 h2
  have HNB : Hid (∀ l0, fitB l0 = true → blockB l0 = bs → bodyB l0 l0.length = bs.take m) := by
    intro l0 h1 h2
    have h3 := (foot_block h1 h2).2.2
    rw [HL.out, HM.out] at h3
    exact h3
  have hmn : m < n := HFN.1
  have HBT : Hid (Bytes w (some ⟨b, off, none⟩) m (bs.take m)) := bytes_take hb m (Nat.le_of_lt hmn)
  have hmc : m < c := Nat.lt_of_lt_of_le hmn hnc
  have hmcz : (m : Int) ≤ (c : Int) := by omega
  have hmnz : (m : Int) ≤ (n : Int) := by omega
  obtain ⟨body, HBO⟩ : ∃ body, Hid (bs.take m = body) := ⟨_, rfl⟩
  have HBLN : Hid (body.length = m) := by show _ = _; rw [← HBO.out]; exact HBT.out.1
  rw [HBO.out] at HBT HPE HNB
  have HCF : Hid _ := CF
  have HB : Hid _ := hb
  clear CF hf hb hcell0 HFN
  go_enter Try.func65, Try.ntmps65
  go_wp2_with fail
  refine Calls.mono HCF.out ?_
  rintro e w1 ⟨hb1, rfl⟩
  have HB1 : Hid (Below w.heap.size w w1) := hb1
  have hz1 := hb1.size
  clear hb1 HCF
  obtain ⟨g, HGE⟩ : ∃ g, Hid (w1.heap.size = g) := ⟨_, rfl⟩
  go_wp2_with fail
  rw [HGE.out]
  go_loopw [5, 6, 7, 8] (fun s5 s6 s7 _ wr => ∃ (l : List E) (a n6 c6 : Nat) (ao6 : Option Addr), Hid (ParInv body l a) ∧ s7 = .string (lastK l l.length) ∧ s6 = .slice ao6 n6 c6 ∧ n6 ≤ c6 ∧ c6 ≤ 9223372036854775807 ∧ Hid (ao6 = none → c6 = 0) ∧ Hid (Bytes wr ao6 n6 (placesB l l.length)) ∧ Hid (wr.ownsRow (g + 1) 23 4 s5 l.length (flatE l)) ∧ Hid (∀ x, ao6 = some x → x.block < wr.heap.size ∧ x.block ≠ g ∧ s5.ownBlock ≠ some x.block) ∧ Hid (CurAt wr g (.slice (some ⟨b, off, none⟩) m c) a) ∧ Hid (Below w.heap.size w wr)) (fun _ _ _ _ wr => m - (intOf ((wr.cell? ⟨g, 1, none⟩).getD undef)).toNat)
  case atStart =>
    refine ⟨[], 0, 0, 0, none, inv_nil _, rfl, rfl, Nat.le_refl _, Nat.zero_le _, (fun _ => rfl), bytes_nil _, World.ownsRow_nil _ _ _ _, (fun x hx => by cases hx), ?_, HB1.out.trans ((bel_alloc w1 _).mono hz1)⟩
    show _ = _
    rw [← HGE.out]
    exact heap_alloc_new w1 _
  case round =>
    obtain ⟨l, a, n6, c6, ao6, HI, rfl, rfl, hn6, hc6, H06, HBY6, HOW, HNE, HCU, HBE⟩ := hrel
    obtain ⟨aoL, cL, rfl, hEV⟩ := own_out HOW.out
    have HEV : Hid (EntsV wr aoL l.length l) := hEV
    obtain ⟨L, HLL⟩ : ∃ L, Hid (l.length = L) := ⟨_, rfl⟩
    have hL64 := HI.out.len
    rw [HLL.out] at HOW HNE HEV hL64 ⊢
    have c1 := HCU.out.cells.2
    clear hEV
    by_cases hlt : a < m
    case neg =>
      have hltz := nlt_z hlt
      have hltd := dec_noz hlt
      have HE := HPE.out l a HI.out hlt
      have HEH : Hid _ := HE
      clear HE
      have hcm : (m : Int) < (c : Int) := by omega
      have CF := fun W hW => foot_any ao6 n6 c6 (placesB l l.length) W hn6 hc6 H06.out (bytes_kept (w' := W) HBY6.out hW (Nat.le_refl wr.heap.size)) (by have := pl_len l HI.out.len; have := HBY6.out.1; omega)
      have HCF : Hid (∀ W, Below wr.heap.size wr W → _) := CF
      clear CF
      by_cases hL : 0 < L
      case neg =>
        have hLz : ¬ (0 : Int) < (L : Int) := by omega
        have hLd : decide ((0 : Int) < (L : Int)) = false := by simp; omega
        have hLn : decide (0 < L) = false := by simp; omega
        have HNO : Hid (∀ l0, fitB l0 = true → blockB l0 ≠ bs) := fun l0 h1 h2 => by
          have h3 := HEH.out.2 l0 h1 h2
          have h4 := (fit_len h1).1
          rw [h3, HLL.out] at h4
          omega
        go_wp2_with fail
        refine (must_no _).mono ?_
        rintro e w3 ⟨rfl, rfl⟩
        exact ⟨rfl, HBE.out, .inl ⟨rfl, HNO.out⟩⟩
      case pos =>
      have hLz : (0 : Int) < (L : Int) := by omega
      have CS := sorted_any aoL L cL l wr HEV.out (by omega)
      obtain ⟨so, HSO⟩ : ∃ so, Hid (sortedB l = so) := ⟨_, rfl⟩
      rw [HSO.out] at CS
      have HCS : Hid _ := CS
      clear CS
      cases so with
      | false =>
        have HNO : Hid (∀ l0, fitB l0 = true → blockB l0 ≠ bs) := fun l0 h1 h2 => by
          have h3 := HEH.out.2 l0 h1 h2
          rw [h3] at h1
          unfold fitB at h1
          rw [HSO.out, Bool.and_false] at h1
          cases h1
        go_wp2_with fail
        refine Calls.mono HCS.out ?_
        rintro e w3 ⟨rfl, hb3⟩
        go_wp2_with fail
        refine (must_no _).mono ?_
        rintro e w4 ⟨rfl, rfl⟩
        exact ⟨rfl, HBE.out.trans (hb3.mono HBE.out.size), .inl ⟨rfl, HNO.out⟩⟩
      | true =>
        go_wp2_with fail
        refine Calls.mono HCS.out ?_
        rintro e w3 ⟨rfl, hb3⟩
        have HB3 : Hid _ := hb3
        clear hb3 HCS
        go_wp2_with fail
        refine (must_yes _).mono ?_
        rintro e w4 ⟨rfl, rfl⟩
        go_wp2_with fail
        refine wp_region_held_drew (S := fun _ => True) (by kernel_rfl) trivial (fun hS => ?_)
        refine wpAnyH_take (i := 0) (v := ?_) rfl (by kernel_rfl) (by kernel_rfl) (by kernel_rfl) (fun _ _ _ h => h) (Or.inl ⟨by rfl, ?_⟩) (by assumption) ?_
        rotate_left
        · (intro w hSw; (try dsimp only at hSw); go_simp; try with_reducible rfl)
        simp only [Act.put, List.getElem_toArray, List.getElem_cons_zero, List.setIfInBounds_toArray, List.set_cons_zero, List.set_cons_succ]
        refine wpAnyH_take (i := 1) (v := ?_) rfl (by kernel_rfl) (by kernel_rfl) (by kernel_rfl) (fun _ _ _ h => h) (Or.inl ⟨by rfl, ?_⟩) (by assumption) ?_
        rotate_left
        · (intro w hSw; (try dsimp only at hSw); go_simp; try with_reducible rfl)
        simp only [Act.put, List.getElem_toArray, List.getElem_cons_zero, List.getElem_cons_succ, List.setIfInBounds_toArray, List.set_cons_zero, List.set_cons_succ]
        refine wpAnyH_take (i := 2) (v := ?_) rfl (by kernel_rfl) (by kernel_rfl) (by kernel_rfl) (fun _ _ _ h => h) (Or.inl ⟨by rfl, ?_⟩) (by assumption) ?_
        rotate_left
        · (intro w hSw; (try dsimp only at hSw); go_simp; try with_reducible rfl)
        simp only [Act.put, List.getElem_toArray, List.getElem_cons_zero, List.getElem_cons_succ, List.setIfInBounds_toArray, List.set_cons_zero, List.set_cons_succ]
        refine wpAnyH_take (i := 3) (v := ?_) rfl (by kernel_rfl) (by kernel_rfl) (by kernel_rfl) (fun _ _ _ h => h) (Or.inl ⟨by rfl, ?_⟩) (by assumption) ?_
        rotate_left
        · (intro w hSw; (try dsimp only at hSw); go_simp; try with_reducible rfl)
        simp only [Act.put, List.getElem_toArray, List.getElem_cons_zero, List.getElem_cons_succ, List.setIfInBounds_toArray, List.set_cons_zero, List.set_cons_succ]
        refine wpAnyH_ready (rs := [4]) (by kernel_rfl) (by simp) ?_
        refine AllReadyH.cons rfl (fun K hK => ?_) ?_
        rotate_left
        · exact AllReadyH.nil
        go_simp
        refine (HCF.out _ (Below.drew HB3.out)).mono ?_
        rintro e w5 ⟨v5, rfl, hown5, hb5⟩
        obtain ⟨p5, HP5⟩ : ∃ p, Hid ((placesB l l.length ++ fixB ((placesB l l.length).length / 4)).length = p) := ⟨_, rfl⟩
        rw [HP5.out] at hown5
        obtain ⟨ao5, c5, rfl, hby5, -, -, -, -, -⟩ := own_bytes hown5
        have HB5 : Hid (Below wr.heap.size wr w5) := (Below.drew HB3.out).trans (hb5.mono (Below.drew HB3.out).size)
        have hby0 : Bytes w5 (some ⟨b, off + m, none⟩) (n - m) (bs.drop m) := bytes_drop (bytes_kept HB.out (HBE.out.trans (HB5.out.mono HBE.out.size)) (Nat.le_refl _)) m
        have HQ : Hid _ := bequal_any (some ⟨b, off + m, none⟩) ao5 (n - m) (c - m) p5 c5 _ _ w5 hby0 hby5
        clear hown5 hb5 hby5 hby0
        go_wp2_with fail
        refine hK.out _ _ trivial (fun hHeld2 => ?_)
        clear hK K
        refine wpAnyH_ready (rs := [5]) (by kernel_rfl) (by simp) ?_
        refine AllReadyH.cons rfl (fun K hK => ?_) ?_
        rotate_left
        · exact AllReadyH.nil
        go_simp
        refine Calls.mono HQ.out ?_
        rintro e w6 ⟨rfl, rfl⟩
        go_wp2_with fail
        refine hK.out _ _ trivial (fun hHeld2 => ?_)
        clear hK K
        by_cases heq : bs.drop m = placesB l l.length ++ fixB ((placesB l l.length).length / 4)
        · have hdq : decide (bs.drop m = placesB l l.length ++ fixB ((placesB l l.length).length / 4)) = true := decide_eq_true heq
          have HHE : Hid _ := HEH.out.1 ⟨by rw [HLL.out]; exact hL, HSO.out, heq⟩
          rw [hdq]
          clear heq hdq
          refine wpAnyH_ready (rs := [6]) (by kernel_rfl) (by simp) ?_
          refine AllReadyH.cons rfl (fun K hK => ?_) ?_
          rotate_left
          · exact AllReadyH.nil
          go_simp
          refine (must_yes _).mono ?_
          rintro e w7 ⟨rfl, rfl⟩
          go_wp2_with fail
          refine hK.out _ _ trivial (fun hHeld2 => ?_)
          clear hK K
          refine wpAnyH_done (by kernel_rfl) ?_ _
          go_wp2
          go_ret
          refine ⟨HBE.out.trans (HB5.out.mono HBE.out.size), .inr ⟨l, _, rfl, HHE.out.1, HHE.out.2, HEH.out.2, ?_⟩⟩
          rw [HLL.out]
          exact ownsRow_mono (own_below HOW.out HB5.out (Nat.le_refl _)) (by have := HGE.out; omega)
        · have hdq : decide (bs.drop m = placesB l l.length ++ fixB ((placesB l l.length).length / 4)) = false := decide_eq_false heq
          have HNO : Hid (∀ l0, fitB l0 = true → blockB l0 ≠ bs) := fun l0 h1 h2 => by
            have h3 := HEH.out.2 l0 h1 h2
            have h4 := HNB.out l0 h1 h2
            subst h3
            refine heq ?_
            rw [← h2, blockB, h4]
            exact List.drop_left' HBLN.out
          rw [hdq]
          clear heq hdq
          refine wpAnyH_ready (rs := [6]) (by kernel_rfl) (by simp) ?_
          refine AllReadyH.cons rfl (fun K hK => ?_) ?_
          rotate_left
          · exact AllReadyH.nil
          go_simp
          refine (must_no _).mono ?_
          rintro e w7 ⟨rfl, rfl⟩
          exact ⟨rfl, HBE.out.trans (HB5.out.mono HBE.out.size), .inl ⟨rfl, HNO.out⟩⟩
    case pos =>
    have hltz := lt_z hlt
    have HPN : Hid ((placesN l a).length ≤ 104) := pn_len l a HI.out.len
    have hwu := wrapu32 hlt (Nat.le_trans (Nat.le_of_lt hmn) hn)
    go_upto_if 22 with fail
    go_cut [6, 7] (fun s6 s7 wx => ∃ (ao7 : Option Addr) (n7 c7 : Nat), s6 = .slice ao7 n7 c7 ∧ s7 = .string (aheadK l L) ∧ n7 ≤ c7 ∧ c7 ≤ 9223372036854775807 ∧ Hid (ao7 = none → c7 = 0) ∧ Hid (Bytes wx ao7 n7 (placesN l a)) ∧ Hid (∀ x, ao7 = some x → x.block < wx.heap.size ∧ x.block ≠ g ∧ (Value.slice aoL L cL).ownBlock ≠ some x.block) ∧ Hid (Below wr.heap.size wr wx))
    case first =>
      by_cases h8 : L % 8 = 0
      · have h8z := num8 h8
        have HAK : Hid (aheadK l L = ⟨#[]⟩) := by show _ = _; unfold aheadK; rw [if_pos h8]
        have HPL : Hid (placesN l a = placesB l l.length ++ fixB a) := by show _ = _; unfold placesN; rw [HLL.out, if_pos h8]
        have CP := putFixed_any ao6 n6 c6 (placesB l l.length) a wr hn6 hc6 H06.out HBY6.out (by omega) (by have := pl_len l HI.out.len; have := HBY6.out.1; omega)
        have HCP : Hid _ := CP
        clear CP
        rw [h8z]
        go_wp2_with fail
        refine Calls.mono HCP.out ?_
        rintro e w2 ⟨v2, rfl, hown2, hb2⟩
        obtain ⟨k6, HN6⟩ : ∃ n, Hid ((placesB l l.length ++ fixB a).length = n) := ⟨_, rfl⟩
        rw [HN6.out] at hown2
        obtain ⟨ao7, c7, rfl, hby7, h07, hlc7, hcm7, -, hx7⟩ := own_bytes hown2
        have HN : Hid ((ao7 = none → c7 = 0) ∧ Bytes w2 ao7 k6 (placesB l l.length ++ fixB a) ∧ (∀ x, ao7 = some x → x.block < w2.heap.size ∧ x.block ≠ g ∧ (Value.slice aoL L cL).ownBlock ≠ some x.block) ∧ Below wr.heap.size wr w2) := by
          refine ⟨h07, hby7, fun x hx => ⟨(hx7 x hx).2, ?_, fun hk => ?_⟩, hb2⟩
          · have h1 := (hx7 x hx).1
            have h2 := HCU.out.lt
            omega
          · have h1 := (hx7 x hx).1
            have h2 := (HOW.out.lt _ hk).2
            omega
        unfold maxLen at hcm7
        clear hown2 hb2 hby7 h07 hx7 HCP
        go_wp2
        go_meet
        case rel => exact ⟨ao7, k6, c7, rfl, by rw [HAK.out], hlc7, hcm7, HN.out.1, (by show Bytes _ _ _ _; rw [HPL.out]; exact HN.out.2.1), HN.out.2.2.1, HN.out.2.2.2⟩
      · have h8z := num8n h8
        have HAK : Hid (lastK l l.length = aheadK l L) := by show _ = _; rw [← HLL.out]; exact ahead_last l (by rw [HLL.out]; exact h8)
        have HPL : Hid (placesN l a = placesB l l.length) := by show _ = _; unfold placesN; rw [HLL.out, if_neg h8]
        rw [h8z]
        go_wp2
        go_meet
        case rel => exact ⟨ao6, n6, c6, rfl, by rw [← HAK.out, HLL.out], hn6, hc6, H06, (by show Bytes _ _ _ _; rw [HPL.out]; exact HBY6.out), HNE, Below.refl _ _⟩
    case rest =>
      obtain ⟨ao7, n7, c7, rfl, rfl, hn7, hc7, H07, HBY7, HNE7, HB7⟩ := hcut
      by_cases h64 : L < 64
      case neg =>
        have h64z : ¬ (L : Int) < 64 := by omega
        have h64d : decide ((L : Int) < 64) = false := by simp; omega
        have HNO : Hid (∀ l0, fitB l0 = true → blockB l0 ≠ bs) := fun l0 h1 h2 => inv_full HI.out (by rw [HBLN.out]; exact hlt) (by rw [HLL.out]; exact h64) l0 h1 (HNB.out l0 h1 h2)
        go_wp2_with fail
        refine (must_no _).mono ?_
        rintro e w3 ⟨rfl, rfl⟩
        exact ⟨rfl, HBE.out.trans (HB7.out.mono HBE.out.size), .inl ⟨rfl, HNO.out⟩⟩
      case pos =>
      have h64z : (L : Int) < 64 := by omega
      have HB9 : Hid (Below w.heap.size w wc) := HBE.out.trans (HB7.out.mono HBE.out.size)
      have CE := entryc_any g b off m c a (aheadK l L) body wc (HCU.out.below HB7.out (Nat.le_refl _)) (bytes_kept HBT.out HB9.out (Nat.le_refl _)) (Nat.lt_of_lt_of_le HBL.out HB9.out.size) (by have := HBL.out; have := HGE.out; omega) (Nat.le_of_lt hlt) hmc hc (by omega) (by have := aheadK_size HI.out.right L (by rw [HLL.out]; exact Nat.le_refl _); omega)
      obtain ⟨oe, HOE⟩ : ∃ o, Hid (entOf (aheadK l L) (body.drop a) = o) := ⟨_, rfl⟩
      rw [HOE.out] at CE
      have HCE : Hid _ := CE
      clear CE c1 hwu hltz
      go_wp2_with fail
      refine (must_yes _).mono ?_
      rintro e w3 ⟨rfl, rfl⟩
      go_wp2_with fail
      refine Calls.mono HCE.out ?_
      rintro e w4 ⟨hg4, he⟩
      cases oe with
      | none =>
        have HNO : Hid (∀ l0, fitB l0 = true → blockB l0 ≠ bs) := fun l0 h1 h2 => inv_bad HI.out (by rw [HBLN.out]; exact hlt) (by rw [HLL.out]; exact HOE.out) l0 h1 (HNB.out l0 h1 h2)
        obtain rfl : e = .panicked nb := he
        refine ⟨rfl, ?_, .inl ⟨rfl, HNO.out⟩⟩
        exact HB9.out.grown hg4 HB9.out.size (fun k hk => by cases hk; have := HGE.out; omega)
      | some xk =>
        obtain ⟨⟨kx, vx, dx, qx⟩, k⟩ := xk
        obtain ⟨rfl, hc4⟩ : e = .returned (.agg #[.string kx, .string vx, .bool dx, .int .i64 qx]) ∧ CurAt w4 g (.slice (some ⟨b, off, none⟩) m c) (a + k) := he
        have HIN : Hid (ParInv body (l ++ [⟨kx, vx, dx, qx⟩]) (a + k)) := inv_step HI.out (by rw [HBLN.out]; exact hlt) (by rw [HLL.out]; exact h64) (by rw [HLL.out]; exact HOE.out)
        have hk1 : 1 ≤ k := (entOf_once HOE.out).2.1
        have HBE4 : Hid (Below w.heap.size w w4) := HB9.out.grown hg4 HB9.out.size (fun k hk => by cases hk; have := HGE.out; omega)
        have HOW4 : Hid (w4.ownsRow (g + 1) 23 4 (.slice aoL L cL) L (flatE l)) := own_gb (own_below HOW.out HB7.out (Nat.le_refl _)) hg4 (Nat.lt_succ_self _)
        have HBY4 : Hid (Bytes w4 ao7 n7 (placesN l a)) := bytes_grown HBY7.out hg4 (fun x hx => ⟨(HNE7.out x hx).1, fun e => (HNE7.out x hx).2.1 (by cases e; rfl)⟩)
        have HNE4 : Hid (∀ x, ao7 = some x → x.block < w4.heap.size ∧ x.block ≠ g ∧ (Value.slice aoL L cL).ownBlock ≠ some x.block) := fun x hx => ⟨Nat.lt_of_lt_of_le (HNE7.out x hx).1 hg4.size, (HNE7.out x hx).2⟩
        have HC4 : Hid (CurAt w4 g (.slice (some ⟨b, off, none⟩) m c) (a + k)) := hc4
        have hgl4 : g < w4.heap.size := hc4.lt
        clear hg4 hc4 HCE
        obtain ⟨i0, hi, hz0, hz1', hz2⟩ := info_parts info23
        obtain ⟨w5, HW5⟩ : ∃ w5, Hid (w5 = w4.alloc (Obj.cells #[.string kx, .string vx, .bool dx, .int .i64 qx] 23)) := ⟨_, rfl⟩
        have HB5 : Hid (Below w4.heap.size w4 w5) := by show Below _ _ _; rw [HW5.out]; exact bel_alloc _ _
        have HOA : Hid ((w5.alloc (Obj.cells #[.string kx, .string vx, .bool dx, .int .i64 qx] 23)).ownsRow (g + 1) 23 4 (.slice aoL L cL) L (flatE l)) := (own_below HOW4.out HB5.out (Nat.le_refl _)).alloc _
        have HCA : Hid (∀ j u, (encE (E.mk kx vx dx qx))[j]? = some u → (w5.alloc (Obj.cells #[.string kx, .string vx, .bool dx, .int .i64 qx] 23)).cell? ((⟨w5.heap.size, 0, none⟩ : Addr).add j) = some u) := ent_laid w5 _ _ dx qx
        have HBA : Hid (g + 1 ≤ (w5.alloc (Obj.cells #[.string kx, .string vx, .bool dx, .int .i64 qx] 23)).heap.size) := by show _ ≤ _; have := HB5.out.size; simp; omega
        have HBL5 : Hid (Below w4.heap.size w4 (w5.alloc (Obj.cells #[.string kx, .string vx, .bool dx, .int .i64 qx] 23))) := HB5.out.trans ((bel_alloc w5 _).mono HB5.out.size)
        have HK0 : Hid ((w5.alloc (Obj.cells #[.string kx, .string vx, .bool dx, .int .i64 qx] 23)).cell? ⟨w4.heap.size, 0, none⟩ = some (.string kx)) := by
          show _ = _
          rw [HW5.out]
          have h1 : (w4.alloc (Obj.cells #[.string kx, .string vx, .bool dx, .int .i64 qx] 23)).heap[w4.heap.size]? = some (Obj.cells #[.string kx, .string vx, .bool dx, .int .i64 qx] 23) := heap_alloc_new w4 _
          have h2 := Below.heap_alloc (w4.alloc (Obj.cells #[.string kx, .string vx, .bool dx, .int .i64 qx] 23)) (Obj.cells #[.string kx, .string vx, .bool dx, .int .i64 qx] 23) w4.heap.size (by simp)
          simp only [World.cell?, h2, h1]
          rfl
        rw [HW5.out] at HOA HCA HBA HBL5 HK0
        have hsz5 : (w4.alloc (Obj.cells #[.string kx, .string vx, .bool dx, .int .i64 qx] 23)).heap.size = w4.heap.size + 1 := by simp
        rw [hsz5] at HCA
        clear hsz5
        go_wp2_with (at_builtin; refine wpList_append_splitG _ rfl (.tmp 34) (.tmp 36) 35 23 rfl i0 _ 4 48 Try.underlying35 hi hz0 hz1' hz2 rfl (by decide) (g + 1) _ L (flatE l) rfl HOA.out HBA.out ⟨w4.heap.size + 1, 0, none⟩ 1 1 (encE (E.mk kx vx dx qx)) rfl rfl HCA.out (encE_one _) (by decide) (by omega) (by decide) ?_)
        intro v6 w6 hown6 hgr6 hsp6
        have hobl : ∀ k, (Value.slice aoL L cL).ownBlock = some k → g + 1 ≤ k ∧ k < w4.heap.size := fun k hk => HOW4.out.lt k hk
        have hzA : w4.heap.size ≤ ((w4.alloc (Obj.cells #[.string kx, .string vx, .bool dx, .int .i64 qx] 23)).alloc (Obj.cells #[.string kx, .string vx, .bool dx, .int .i64 qx] 23)).heap.size := HBL5.out.size
        have f0 : w6.cell? ⟨w4.heap.size, 0, none⟩ = some (.string kx) := by
          rw [← HK0.out]
          refine World.cell?_of_block (hgr6.block w4.heap.size (by simp; omega) (fun e => ?_))
          have := (hobl _ e.symm).2
          omega
        have HN : Hid (Bytes w6 ao7 n7 (placesN l a) ∧ w6.ownsRow (g + 1) 23 4 v6 (L + 1) (flatE l ++ encE (E.mk kx vx dx qx)) ∧ (∀ x, ao7 = some x → x.block < w6.heap.size ∧ x.block ≠ g ∧ v6.ownBlock ≠ some x.block) ∧ CurAt w6 g (.slice (some ⟨b, off, none⟩) m c) (a + k) ∧ Below w.heap.size w w6) := by
          refine ⟨?_, hown6, ?_, ?_, ?_⟩
          · exact bytes_grown (bytes_kept HBY4.out HBL5.out (Nat.le_refl _)) hgr6 (fun x hx => ⟨Nat.lt_of_lt_of_le (HNE4.out x hx).1 hzA, (HNE4.out x hx).2.2⟩)
          · intro x hx
            obtain ⟨h1, h2, h3⟩ := HNE4.out x hx
            refine ⟨Nat.lt_of_lt_of_le (Nat.lt_of_lt_of_le h1 hzA) hgr6.size, h2, fun hk => ?_⟩
            rcases hsp6 with h4 | ⟨g', h4, h5⟩
            · rw [h4] at hk; exact h3 hk
            · rw [h4] at hk; cases hk; omega
          · have h1 := HC4.out.below HBL5.out (Nat.le_refl _)
            unfold CurAt at h1 ⊢
            rw [hgr6.block g (Nat.lt_of_lt_of_le hgl4 hzA) (fun e => ?_)]
            · exact h1
            · have := (hobl _ e.symm).1
              omega
          · refine (HBE4.out.trans (HBL5.out.mono HBE4.out.size)).grown hgr6 (Nat.le_trans HBE4.out.size hzA) (fun k hk => ?_)
            have := (hobl k hk).1
            have := HGE.out
            omega
        clear hown6 hgr6 hsp6 hobl hzA HOA HCA HBA HBL5 HK0 HB5
        go_wp2
        go_roundw
        case rel =>
          refine ⟨l ++ [⟨kx, vx, dx, qx⟩], a + k, n7, c7, ao7, HIN, by rw [last_snoc], rfl, hn7, hc7, H07, ?_, ?_, HN.out.2.2.1, HN.out.2.2.2.1, HN.out.2.2.2.2⟩
          · show Bytes _ _ _ _
            rw [places_snoc l _ a (par_len HI.out)]
            exact HN.out.1
          · show World.ownsRow _ _ _ _ _ _ _
            rw [flatE_append, List.length_append, HLL.out]
            simpa [flatE] using HN.out.2.1
        case measure =>
          have h1 := HCU.out.cells.2
          have h2 := HN.out.2.2.2.1.cells.2
          rw [h1, h2]
          simp only [Option.getD_some, intOf, Int.toNat_natCast]
          omega
end Go.Proofs.Yteemfhhhdhddhaa
