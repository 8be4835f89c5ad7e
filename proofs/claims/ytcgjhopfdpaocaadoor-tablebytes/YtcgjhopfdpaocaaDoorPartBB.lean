/-
  What block.list answers: a contract over this translation. What block.Parse and block.Seek answer: contracts over this translation. Keys that begin alike take less room: what the law BlockSmall answers, for any arguments. The statement BlockNext, walked.
-/
import Derived.Test.YtcgjhopfdpaocaaDoorPartBA
import Derived.Test.YtcgjhopfdpaocaaDoorPartAI
import Derived.Test.YtcgjhopfdpaocaaDoorPartAG
namespace Go.Proofs.YtcgjhopfdpaocaaDoor
open Go.RowKit Go.Sort Go.Shelf
set_option linter.unusedSectionVars false
variable [Inhabited E] [DecidableEq E]
def ListSays (bs : List UInt8) (base : Nat) (e : Ending) (w' : World) : Prop :=
  (e = .panicked nb ∧ ∀ l, fitB l = true → blockB l ≠ bs) ∨ ∃ l v, e = .returned v ∧ fitB l = true ∧ blockB l = bs ∧ (∀ l0, fitB l0 = true → blockB l0 = bs → l0 = l) ∧ w'.ownsRow base 51 4 v l.length (flatE l)
def placesN (l : List E) (a : Nat) : List UInt8 := if l.length % 8 = 0 then placesB l l.length ++ fixB a else placesB l l.length
theorem places_snoc (l : List E) (e : E) (a : Nat) (h : (bodyB l l.length).length = a) : placesB (l ++ [e]) (l ++ [e]).length = placesN l a := by
  rw [List.length_append, List.length_singleton, placesB, placesB_app, bodyB_app, h, placesN]
theorem last_snoc (l : List E) (e : E) : lastK (l ++ [e]) (l ++ [e]).length = e.key := by
  rw [List.length_append, List.length_singleton, lastK, if_neg (by omega), Nat.add_sub_cancel, get_app_at]
theorem ahead_last (l : List E) (h : ¬ l.length % 8 = 0) : lastK l l.length = aheadK l l.length := by
  unfold lastK aheadK
  rw [if_neg h, if_neg (fun h0 => h (by rw [h0]))]
theorem par_len {body : List UInt8} {l : List E} {a : Nat} (h : ParInv body l a) : (bodyB l l.length).length = a := by
  rw [h.pre, List.length_take, Nat.min_eq_left h.le]
theorem own_out {w : World} {base : Nat} {v : Value} {l : List E} (h : w.ownsRow base 51 4 v l.length (flatE l)) : ∃ ao c, v = .slice ao l.length c ∧ EntsV w ao l.length l := own_entsV h rfl
theorem own_gb {w w' : World} {base n g : Nat} {v : Value} {xs : List Value} (h : w.ownsRow base 51 4 v n xs) (hg : w.grownBy w' (some g)) (hgb : g < base) : w'.ownsRow base 51 4 v n xs := by
  refine ⟨h.1, ?_⟩
  rcases h.2 with h2 | ⟨k, cap, cur, h1, h2, h3, h4⟩
  · exact .inl h2
  · refine .inr ⟨k, cap, cur, h1, h2, ?_, h4⟩
    rw [hg.block k (Array.getElem?_eq_some_iff.1 h3).1 (fun e => by cases e; omega)]
    exact h3
theorem num8 {a : Nat} (h : a % 8 = 0) : ((a : Int) % 8 == 0) = true := by simp; omega
theorem num8n {a : Nat} (h : ¬ a % 8 = 0) : ((a : Int) % 8 == 0) = false := by simp; omega
theorem wrapu32 {a n : Nat} (h : a < n) (hn : n ≤ 1000000) : IntKind.u32.wrap (a : Int) = a := by rw [IntKind.wrap_u32]; omega
theorem lt_z {a b : Nat} (h : a < b) : (a : Int) < (b : Int) := by omega
theorem nlt_z {a b : Nat} (h : ¬ a < b) : ¬ (a : Int) < (b : Int) := by omega
theorem dec_no {a b : Nat} (h : ¬ a < b) : decide (a < b) = false := by simp; omega
theorem dec_noz {a b : Nat} (h : ¬ a < b) : decide ((a : Int) < (b : Int)) = false := by simp; omega
theorem foot_nums {n f : Nat} (hle : (f + 1) * 4 ≤ n) : n - (f + 1) * 4 < n ∧ n - (f + 1) * 4 + (f + 1) * 4 = n := by omega
theorem pl_len (l : List E) (h : l.length ≤ 64) : (placesB l l.length).length ≤ 100 := by rw [placesB_len]; omega
theorem pn_len (l : List E) (a : Nat) (h : l.length ≤ 64) : (placesN l a).length ≤ 104 := by
  have := pl_len l h
  unfold placesN
  split
  · rw [List.length_append, fixB_len]; omega
  · omega
set_option maxRecDepth 100000 in
set_option maxHeartbeats 4000000 in
theorem list_any (ao : Option Addr) (n c : Nat) (bs : List UInt8) (w : World) (hb : Bytes w ao n bs) (hnc : n ≤ c) (hc : c ≤ 9223372036854775807) (hn : n ≤ 1000000) :
    Calls Tryd.prog 87 #[.slice ao n c] w fun e w' => Below w.heap.size w w' ∧ ListSays bs w.heap.size e w' := by
  have HL : Hid (bs.length = n) := hb.1
  have CF := footAt_any ao n c bs w hb hnc hn hc
  by_cases hf : 4 ≤ n ∧ (footN bs + 1) * 4 ≤ n
  case neg =>
    have HNO : Hid (∀ l, fitB l = true → blockB l ≠ bs) := fun l h1 h2 => by
      have h3 := foot_block h1 h2
      rw [HL.out] at h3
      exact hf ⟨h3.1, h3.2.1⟩
    simp only [if_neg hf] at CF
    have HCF : Hid _ := CF
    clear CF hf hb
    go_enter Tryd.func87, Tryd.ntmps87
    go_wp2_with fail
    refine Calls.mono HCF.out ?_
    rintro e w1 ⟨hb1, rfl⟩
    exact ⟨rfl, hb1, .inl ⟨rfl, HNO.out⟩⟩
  case pos =>
  simp only [if_pos hf] at CF
  obtain ⟨b, off, rfl, hcell0⟩ := bytes_at hb (Nat.lt_of_lt_of_le (by decide) hf.1)
  have HBL : Hid (b < w.heap.size) := World.block_lt_of_cell? w _ (hcell0 0 (by have := hf.1; rw [hb.1]; omega))
  obtain ⟨m, HM⟩ : ∃ m, Hid (n - (footN bs + 1) * 4 = m) := ⟨_, rfl⟩
  have HFN := foot_nums hf.2
  rw [HM.out] at CF HFN
  have HPE : Hid (∀ l a, ParInv (bs.take m) l a → ¬ a < m → (1 ≤ l.length ∧ sortedB l = true ∧ bs.drop m = placesB l l.length ++ fixB ((placesB l l.length).length / 4) → fitB l = true ∧ blockB l = bs) ∧ (∀ l0, fitB l0 = true → blockB l0 = bs → l0 = l)) := by
    intro l a h1 h2
    have h3 := par_end (bs := bs) (l := l) (at_ := a) (by rw [HL.out]; exact hf.2)
    rw [HL.out, HM.out] at h3
    exact h3 h1 h2
  have HNB : Hid (∀ l0, fitB l0 = true → blockB l0 = bs → bodyB l0 l0.length = bs.take m) := by
    intro l0 h1 h2
    have h3 := (foot_block h1 h2).2.2
    rw [HL.out, HM.out] at h3
    exact h3
  have hmn : m < n := HFN.1
  have HBT : Hid (Bytes w (some ⟨b, off, none⟩) m (bs.take m)) := bytes_take hb m (Nat.le_of_lt hmn)
  have hmc : m < c := Nat.lt_of_lt_of_le hmn hnc
  have hmcz : (m : Int) ≤ (c : Int) := by omega
  have hmnz : (m : Int) ≤ (n : Int) := by omega
  obtain ⟨body, HBO⟩ : ∃ body, Hid (bs.take m = body) := ⟨_, rfl⟩
  have HBLN : Hid (body.length = m) := by show _ = _; rw [← HBO.out]; exact HBT.out.1
  rw [HBO.out] at HBT HPE HNB
  have HCF : Hid _ := CF
  have HB : Hid _ := hb
  clear CF hf hb hcell0 HFN
  go_enter Tryd.func87, Tryd.ntmps87
  go_wp2_with fail
  refine Calls.mono HCF.out ?_
  rintro e w1 ⟨hb1, rfl⟩
  have HB1 : Hid (Below w.heap.size w w1) := hb1
  have hz1 := hb1.size
  clear hb1 HCF
  obtain ⟨g, HGE⟩ : ∃ g, Hid (w1.heap.size = g) := ⟨_, rfl⟩
  go_wp2_with fail
  rw [HGE.out]
  go_loopw [5, 6, 7, 8] (fun s5 s6 s7 _ wr => ∃ (l : List E) (a n6 c6 : Nat) (ao6 : Option Addr), Hid (ParInv body l a) ∧ s7 = .string (lastK l l.length) ∧ s6 = .slice ao6 n6 c6 ∧ n6 ≤ c6 ∧ c6 ≤ 9223372036854775807 ∧ Hid (ao6 = none → c6 = 0) ∧ Hid (Bytes wr ao6 n6 (placesB l l.length)) ∧ Hid (wr.ownsRow (g + 1) 51 4 s5 l.length (flatE l)) ∧ Hid (∀ x, ao6 = some x → x.block < wr.heap.size ∧ x.block ≠ g ∧ s5.ownBlock ≠ some x.block) ∧ Hid (CurAt wr g (.slice (some ⟨b, off, none⟩) m c) a) ∧ Hid (Below w.heap.size w wr)) (fun _ _ _ _ wr => m - (intOf ((wr.cell? ⟨g, 1, none⟩).getD undef)).toNat)
  case atStart =>
    refine ⟨[], 0, 0, 0, none, inv_nil _, rfl, rfl, Nat.le_refl _, Nat.zero_le _, (fun _ => rfl), bytes_nil _, World.ownsRow_nil _ _ _ _, (fun x hx => by cases hx), ?_, HB1.out.trans ((bel_alloc w1 _).mono hz1)⟩
    show _ = _
    rw [← HGE.out]
    exact heap_alloc_new w1 _
  case round =>
    obtain ⟨l, a, n6, c6, ao6, HI, rfl, rfl, hn6, hc6, H06, HBY6, HOW, HNE, HCU, HBE⟩ := hrel
    obtain ⟨aoL, cL, rfl, hEV⟩ := own_out HOW.out
    have HEV : Hid (EntsV wr aoL l.length l) := hEV
    obtain ⟨L, HLL⟩ : ∃ L, Hid (l.length = L) := ⟨_, rfl⟩
    have hL64 := HI.out.len
    rw [HLL.out] at HOW HNE HEV hL64 ⊢
    have c1 := HCU.out.cells.2
    clear hEV
    by_cases hlt : a < m
    case neg =>
      have hltz := nlt_z hlt
      have hltd := dec_noz hlt
      have HE := HPE.out l a HI.out hlt
      have HEH : Hid _ := HE
      clear HE
      have hcm : (m : Int) < (c : Int) := by omega
      have CF := fun W hW => foot_any ao6 n6 c6 (placesB l l.length) W hn6 hc6 H06.out (bytes_kept (w' := W) HBY6.out hW (Nat.le_refl wr.heap.size)) (by have := pl_len l HI.out.len; have := HBY6.out.1; omega)
      have HCF : Hid (∀ W, Below wr.heap.size wr W → _) := CF
      clear CF
      by_cases hL : 0 < L
      case neg =>
        have hLz : ¬ (0 : Int) < (L : Int) := by omega
        have hLd : decide ((0 : Int) < (L : Int)) = false := by simp; omega
        have hLn : decide (0 < L) = false := by simp; omega
        have HNO : Hid (∀ l0, fitB l0 = true → blockB l0 ≠ bs) := fun l0 h1 h2 => by
          have h3 := HEH.out.2 l0 h1 h2
          have h4 := (fit_len h1).1
          rw [h3, HLL.out] at h4
          omega
        go_wp2_with fail
        refine (must_no _).mono ?_
        rintro e w3 ⟨rfl, rfl⟩
        exact ⟨rfl, HBE.out, .inl ⟨rfl, HNO.out⟩⟩
      case pos =>
      have hLz : (0 : Int) < (L : Int) := by omega
      have CS := sorted_any aoL L cL l wr HEV.out (by omega)
      obtain ⟨so, HSO⟩ : ∃ so, Hid (sortedB l = so) := ⟨_, rfl⟩
      rw [HSO.out] at CS
      have HCS : Hid _ := CS
      clear CS
      cases so with
      | false =>
        have HNO : Hid (∀ l0, fitB l0 = true → blockB l0 ≠ bs) := fun l0 h1 h2 => by
          have h3 := HEH.out.2 l0 h1 h2
          rw [h3] at h1
          unfold fitB at h1
          rw [HSO.out, Bool.and_false] at h1
          cases h1
        go_wp2_with fail
        refine Calls.mono HCS.out ?_
        rintro e w3 ⟨rfl, hb3⟩
        go_wp2_with fail
        refine (must_no _).mono ?_
        rintro e w4 ⟨rfl, rfl⟩
        exact ⟨rfl, HBE.out.trans (hb3.mono HBE.out.size), .inl ⟨rfl, HNO.out⟩⟩
      | true =>
        go_wp2_with fail
        refine Calls.mono HCS.out ?_
        rintro e w3 ⟨rfl, hb3⟩
        have HB3 : Hid _ := hb3
        clear hb3 HCS
        go_wp2_with fail
        refine (must_yes _).mono ?_
        rintro e w4 ⟨rfl, rfl⟩
        go_wp2_with fail
        refine wp_region_held_drew (S := fun _ => True) (by kernel_rfl) trivial (fun hS => ?_)
        refine wpAnyH_take (i := 0) (v := ?_) rfl (by kernel_rfl) (by kernel_rfl) (by kernel_rfl) (fun _ _ _ h => h) (Or.inl ⟨by rfl, ?_⟩) (by assumption) ?_
        rotate_left
        · (intro w hSw; (try dsimp only at hSw); go_simp; try with_reducible rfl)
        simp only [Act.put, List.getElem_toArray, List.getElem_cons_zero, List.setIfInBounds_toArray, List.set_cons_zero, List.set_cons_succ]
        refine wpAnyH_take (i := 1) (v := ?_) rfl (by kernel_rfl) (by kernel_rfl) (by kernel_rfl) (fun _ _ _ h => h) (Or.inl ⟨by rfl, ?_⟩) (by assumption) ?_
        rotate_left
        · (intro w hSw; (try dsimp only at hSw); go_simp; try with_reducible rfl)
        simp only [Act.put, List.getElem_toArray, List.getElem_cons_zero, List.getElem_cons_succ, List.setIfInBounds_toArray, List.set_cons_zero, List.set_cons_succ]
        refine wpAnyH_take (i := 2) (v := ?_) rfl (by kernel_rfl) (by kernel_rfl) (by kernel_rfl) (fun _ _ _ h => h) (Or.inl ⟨by rfl, ?_⟩) (by assumption) ?_
        rotate_left
        · (intro w hSw; (try dsimp only at hSw); go_simp; try with_reducible rfl)
        simp only [Act.put, List.getElem_toArray, List.getElem_cons_zero, List.getElem_cons_succ, List.setIfInBounds_toArray, List.set_cons_zero, List.set_cons_succ]
        refine wpAnyH_take (i := 3) (v := ?_) rfl (by kernel_rfl) (by kernel_rfl) (by kernel_rfl) (fun _ _ _ h => h) (Or.inl ⟨by rfl, ?_⟩) (by assumption) ?_
        rotate_left
        · (intro w hSw; (try dsimp only at hSw); go_simp; try with_reducible rfl)
        simp only [Act.put, List.getElem_toArray, List.getElem_cons_zero, List.getElem_cons_succ, List.setIfInBounds_toArray, List.set_cons_zero, List.set_cons_succ]
        refine wpAnyH_ready (rs := [4]) (by kernel_rfl) (by simp) ?_
        refine AllReadyH.cons rfl (fun K hK => ?_) ?_
        rotate_left
        · exact AllReadyH.nil
        go_simp
        refine (HCF.out _ (Below.drew HB3.out)).mono ?_
        rintro e w5 ⟨v5, rfl, hown5, hb5⟩
        obtain ⟨p5, HP5⟩ : ∃ p, Hid ((placesB l l.length ++ fixB ((placesB l l.length).length / 4)).length = p) := ⟨_, rfl⟩
        rw [HP5.out] at hown5
        obtain ⟨ao5, c5, rfl, hby5, -, -, -, -, -⟩ := own_bytes hown5
        have HB5 : Hid (Below wr.heap.size wr w5) := (Below.drew HB3.out).trans (hb5.mono (Below.drew HB3.out).size)
        have hby0 : Bytes w5 (some ⟨b, off + m, none⟩) (n - m) (bs.drop m) := bytes_drop (bytes_kept HB.out (HBE.out.trans (HB5.out.mono HBE.out.size)) (Nat.le_refl _)) m
        have HQ : Hid _ := bequal_any (some ⟨b, off + m, none⟩) ao5 (n - m) (c - m) p5 c5 _ _ w5 hby0 hby5
        clear hown5 hb5 hby5 hby0
        go_wp2_with fail
        refine hK.out _ _ trivial (fun hHeld2 => ?_)
        clear hK K
        refine wpAnyH_ready (rs := [5]) (by kernel_rfl) (by simp) ?_
        refine AllReadyH.cons rfl (fun K hK => ?_) ?_
        rotate_left
        · exact AllReadyH.nil
        go_simp
        refine Calls.mono HQ.out ?_
        rintro e w6 ⟨rfl, rfl⟩
        go_wp2_with fail
        refine hK.out _ _ trivial (fun hHeld2 => ?_)
        clear hK K
        by_cases heq : bs.drop m = placesB l l.length ++ fixB ((placesB l l.length).length / 4)
        · have hdq : decide (bs.drop m = placesB l l.length ++ fixB ((placesB l l.length).length / 4)) = true := decide_eq_true heq
          have HHE : Hid _ := HEH.out.1 ⟨by rw [HLL.out]; exact hL, HSO.out, heq⟩
          rw [hdq]
          clear heq hdq
          refine wpAnyH_ready (rs := [6]) (by kernel_rfl) (by simp) ?_
          refine AllReadyH.cons rfl (fun K hK => ?_) ?_
          rotate_left
          · exact AllReadyH.nil
          go_simp
          refine (must_yes _).mono ?_
          rintro e w7 ⟨rfl, rfl⟩
          go_wp2_with fail
          refine hK.out _ _ trivial (fun hHeld2 => ?_)
          clear hK K
          refine wpAnyH_done (by kernel_rfl) ?_ _
          go_wp2
          go_ret
          refine ⟨HBE.out.trans (HB5.out.mono HBE.out.size), .inr ⟨l, _, rfl, HHE.out.1, HHE.out.2, HEH.out.2, ?_⟩⟩
          rw [HLL.out]
          exact ownsRow_mono (own_below HOW.out HB5.out (Nat.le_refl _)) (by have := HGE.out; omega)
        · have hdq : decide (bs.drop m = placesB l l.length ++ fixB ((placesB l l.length).length / 4)) = false := decide_eq_false heq
          have HNO : Hid (∀ l0, fitB l0 = true → blockB l0 ≠ bs) := fun l0 h1 h2 => by
            have h3 := HEH.out.2 l0 h1 h2
            have h4 := HNB.out l0 h1 h2
            subst h3
            refine heq ?_
            rw [← h2, blockB, h4]
            exact List.drop_left' HBLN.out
          rw [hdq]
          clear heq hdq
          refine wpAnyH_ready (rs := [6]) (by kernel_rfl) (by simp) ?_
          refine AllReadyH.cons rfl (fun K hK => ?_) ?_
          rotate_left
          · exact AllReadyH.nil
          go_simp
          refine (must_no _).mono ?_
          rintro e w7 ⟨rfl, rfl⟩
          exact ⟨rfl, HBE.out.trans (HB5.out.mono HBE.out.size), .inl ⟨rfl, HNO.out⟩⟩
    case pos =>
    have hltz := lt_z hlt
    have HPN : Hid ((placesN l a).length ≤ 104) := pn_len l a HI.out.len
    have hwu := wrapu32 hlt (Nat.le_trans (Nat.le_of_lt hmn) hn)
    go_upto_if 22 with fail
    go_cut [6, 7] (fun s6 s7 wx => ∃ (ao7 : Option Addr) (n7 c7 : Nat), s6 = .slice ao7 n7 c7 ∧ s7 = .string (aheadK l L) ∧ n7 ≤ c7 ∧ c7 ≤ 9223372036854775807 ∧ Hid (ao7 = none → c7 = 0) ∧ Hid (Bytes wx ao7 n7 (placesN l a)) ∧ Hid (∀ x, ao7 = some x → x.block < wx.heap.size ∧ x.block ≠ g ∧ (Value.slice aoL L cL).ownBlock ≠ some x.block) ∧ Hid (Below wr.heap.size wr wx))
    case first =>
      by_cases h8 : L % 8 = 0
      · have h8z := num8 h8
        have HAK : Hid (aheadK l L = ⟨#[]⟩) := by show _ = _; unfold aheadK; rw [if_pos h8]
        have HPL : Hid (placesN l a = placesB l l.length ++ fixB a) := by show _ = _; unfold placesN; rw [HLL.out, if_pos h8]
        have CP := putFixed_any ao6 n6 c6 (placesB l l.length) a wr hn6 hc6 H06.out HBY6.out (by omega) (by have := pl_len l HI.out.len; have := HBY6.out.1; omega)
        have HCP : Hid _ := CP
        clear CP
        rw [h8z]
        go_wp2_with fail
        refine Calls.mono HCP.out ?_
        rintro e w2 ⟨v2, rfl, hown2, hb2⟩
        obtain ⟨k6, HN6⟩ : ∃ n, Hid ((placesB l l.length ++ fixB a).length = n) := ⟨_, rfl⟩
        rw [HN6.out] at hown2
        obtain ⟨ao7, c7, rfl, hby7, h07, hlc7, hcm7, -, hx7⟩ := own_bytes hown2
        have HN : Hid ((ao7 = none → c7 = 0) ∧ Bytes w2 ao7 k6 (placesB l l.length ++ fixB a) ∧ (∀ x, ao7 = some x → x.block < w2.heap.size ∧ x.block ≠ g ∧ (Value.slice aoL L cL).ownBlock ≠ some x.block) ∧ Below wr.heap.size wr w2) := by
          refine ⟨h07, hby7, fun x hx => ⟨(hx7 x hx).2, ?_, fun hk => ?_⟩, hb2⟩
          · have h1 := (hx7 x hx).1
            have h2 := HCU.out.lt
            omega
          · have h1 := (hx7 x hx).1
            have h2 := (HOW.out.lt _ hk).2
            omega
        unfold maxLen at hcm7
        clear hown2 hb2 hby7 h07 hx7 HCP
        go_wp2
        go_meet
        case rel => exact ⟨ao7, k6, c7, rfl, by rw [HAK.out], hlc7, hcm7, HN.out.1, (by show Bytes _ _ _ _; rw [HPL.out]; exact HN.out.2.1), HN.out.2.2.1, HN.out.2.2.2⟩
      · have h8z := num8n h8
        have HAK : Hid (lastK l l.length = aheadK l L) := by show _ = _; rw [← HLL.out]; exact ahead_last l (by rw [HLL.out]; exact h8)
        have HPL : Hid (placesN l a = placesB l l.length) := by show _ = _; unfold placesN; rw [HLL.out, if_neg h8]
        rw [h8z]
        go_wp2
        go_meet
        case rel => exact ⟨ao6, n6, c6, rfl, by rw [← HAK.out, HLL.out], hn6, hc6, H06, (by show Bytes _ _ _ _; rw [HPL.out]; exact HBY6.out), HNE, Below.refl _ _⟩
    case rest =>
      obtain ⟨ao7, n7, c7, rfl, rfl, hn7, hc7, H07, HBY7, HNE7, HB7⟩ := hcut
      by_cases h64 : L < 64
      case neg =>
        have h64z : ¬ (L : Int) < 64 := by omega
        have h64d : decide ((L : Int) < 64) = false := by simp; omega
        have HNO : Hid (∀ l0, fitB l0 = true → blockB l0 ≠ bs) := fun l0 h1 h2 => inv_full HI.out (by rw [HBLN.out]; exact hlt) (by rw [HLL.out]; exact h64) l0 h1 (HNB.out l0 h1 h2)
        go_wp2_with fail
        refine (must_no _).mono ?_
        rintro e w3 ⟨rfl, rfl⟩
        exact ⟨rfl, HBE.out.trans (HB7.out.mono HBE.out.size), .inl ⟨rfl, HNO.out⟩⟩
      case pos =>
      have h64z : (L : Int) < 64 := by omega
      have HB9 : Hid (Below w.heap.size w wc) := HBE.out.trans (HB7.out.mono HBE.out.size)
      have CE := entryc_any g b off m c a (aheadK l L) body wc (HCU.out.below HB7.out (Nat.le_refl _)) (bytes_kept HBT.out HB9.out (Nat.le_refl _)) (Nat.lt_of_lt_of_le HBL.out HB9.out.size) (by have := HBL.out; have := HGE.out; omega) (Nat.le_of_lt hlt) hmc hc (by omega) (by have := aheadK_size HI.out.right L (by rw [HLL.out]; exact Nat.le_refl _); omega)
      obtain ⟨oe, HOE⟩ : ∃ o, Hid (entOf (aheadK l L) (body.drop a) = o) := ⟨_, rfl⟩
      rw [HOE.out] at CE
      have HCE : Hid _ := CE
      clear CE c1 hwu hltz
      go_wp2_with fail
      refine (must_yes _).mono ?_
      rintro e w3 ⟨rfl, rfl⟩
      go_wp2_with fail
      refine Calls.mono HCE.out ?_
      rintro e w4 ⟨hg4, he⟩
      cases oe with
      | none =>
        have HNO : Hid (∀ l0, fitB l0 = true → blockB l0 ≠ bs) := fun l0 h1 h2 => inv_bad HI.out (by rw [HBLN.out]; exact hlt) (by rw [HLL.out]; exact HOE.out) l0 h1 (HNB.out l0 h1 h2)
        obtain rfl : e = .panicked nb := he
        refine ⟨rfl, ?_, .inl ⟨rfl, HNO.out⟩⟩
        exact HB9.out.grown hg4 HB9.out.size (fun k hk => by cases hk; have := HGE.out; omega)
      | some xk =>
        obtain ⟨⟨kx, vx, dx, qx⟩, k⟩ := xk
        obtain ⟨rfl, hc4⟩ : e = .returned (.agg #[.string kx, .string vx, .bool dx, .int .i64 qx]) ∧ CurAt w4 g (.slice (some ⟨b, off, none⟩) m c) (a + k) := he
        have HIN : Hid (ParInv body (l ++ [⟨kx, vx, dx, qx⟩]) (a + k)) := inv_step HI.out (by rw [HBLN.out]; exact hlt) (by rw [HLL.out]; exact h64) (by rw [HLL.out]; exact HOE.out)
        have hk1 : 1 ≤ k := (entOf_once HOE.out).2.1
        have HBE4 : Hid (Below w.heap.size w w4) := HB9.out.grown hg4 HB9.out.size (fun k hk => by cases hk; have := HGE.out; omega)
        have HOW4 : Hid (w4.ownsRow (g + 1) 51 4 (.slice aoL L cL) L (flatE l)) := own_gb (own_below HOW.out HB7.out (Nat.le_refl _)) hg4 (Nat.lt_succ_self _)
        have HBY4 : Hid (Bytes w4 ao7 n7 (placesN l a)) := bytes_grown HBY7.out hg4 (fun x hx => ⟨(HNE7.out x hx).1, fun e => (HNE7.out x hx).2.1 (by cases e; rfl)⟩)
        have HNE4 : Hid (∀ x, ao7 = some x → x.block < w4.heap.size ∧ x.block ≠ g ∧ (Value.slice aoL L cL).ownBlock ≠ some x.block) := fun x hx => ⟨Nat.lt_of_lt_of_le (HNE7.out x hx).1 hg4.size, (HNE7.out x hx).2⟩
        have HC4 : Hid (CurAt w4 g (.slice (some ⟨b, off, none⟩) m c) (a + k)) := hc4
        have hgl4 : g < w4.heap.size := hc4.lt
        clear hg4 hc4 HCE
        obtain ⟨i0, hi, hz0, hz1', hz2⟩ := info_parts info23
        obtain ⟨w5, HW5⟩ : ∃ w5, Hid (w5 = w4.alloc (Obj.cells #[.string kx, .string vx, .bool dx, .int .i64 qx] 51)) := ⟨_, rfl⟩
        have HB5 : Hid (Below w4.heap.size w4 w5) := by show Below _ _ _; rw [HW5.out]; exact bel_alloc _ _
        have HOA : Hid ((w5.alloc (Obj.cells #[.string kx, .string vx, .bool dx, .int .i64 qx] 51)).ownsRow (g + 1) 51 4 (.slice aoL L cL) L (flatE l)) := (own_below HOW4.out HB5.out (Nat.le_refl _)).alloc _
        have HCA : Hid (∀ j u, (encE (E.mk kx vx dx qx))[j]? = some u → (w5.alloc (Obj.cells #[.string kx, .string vx, .bool dx, .int .i64 qx] 51)).cell? ((⟨w5.heap.size, 0, none⟩ : Addr).add j) = some u) := ent_laid w5 _ _ dx qx
        have HBA : Hid (g + 1 ≤ (w5.alloc (Obj.cells #[.string kx, .string vx, .bool dx, .int .i64 qx] 51)).heap.size) := by show _ ≤ _; have := HB5.out.size; simp; omega
        have HBL5 : Hid (Below w4.heap.size w4 (w5.alloc (Obj.cells #[.string kx, .string vx, .bool dx, .int .i64 qx] 51))) := HB5.out.trans ((bel_alloc w5 _).mono HB5.out.size)
        have HK0 : Hid ((w5.alloc (Obj.cells #[.string kx, .string vx, .bool dx, .int .i64 qx] 51)).cell? ⟨w4.heap.size, 0, none⟩ = some (.string kx)) := by
          show _ = _
          rw [HW5.out]
          have h1 : (w4.alloc (Obj.cells #[.string kx, .string vx, .bool dx, .int .i64 qx] 51)).heap[w4.heap.size]? = some (Obj.cells #[.string kx, .string vx, .bool dx, .int .i64 qx] 51) := heap_alloc_new w4 _
          have h2 := Below.heap_alloc (w4.alloc (Obj.cells #[.string kx, .string vx, .bool dx, .int .i64 qx] 51)) (Obj.cells #[.string kx, .string vx, .bool dx, .int .i64 qx] 51) w4.heap.size (by simp)
          simp only [World.cell?, h2, h1]
          rfl
        rw [HW5.out] at HOA HCA HBA HBL5 HK0
        have hsz5 : (w4.alloc (Obj.cells #[.string kx, .string vx, .bool dx, .int .i64 qx] 51)).heap.size = w4.heap.size + 1 := by simp
        rw [hsz5] at HCA
        clear hsz5
        go_wp2_with (at_builtin; refine wpList_append_splitG _ rfl (.tmp 34) (.tmp 36) 22 51 rfl i0 _ 4 48 Tryd.underlying22 hi hz0 hz1' hz2 rfl (by decide) (g + 1) _ L (flatE l) rfl HOA.out HBA.out ⟨w4.heap.size + 1, 0, none⟩ 1 1 (encE (E.mk kx vx dx qx)) rfl rfl HCA.out (encE_one _) (by decide) (by omega) (by decide) ?_)
        intro v6 w6 hown6 hgr6 hsp6
        have hobl : ∀ k, (Value.slice aoL L cL).ownBlock = some k → g + 1 ≤ k ∧ k < w4.heap.size := fun k hk => HOW4.out.lt k hk
        have hzA : w4.heap.size ≤ ((w4.alloc (Obj.cells #[.string kx, .string vx, .bool dx, .int .i64 qx] 51)).alloc (Obj.cells #[.string kx, .string vx, .bool dx, .int .i64 qx] 51)).heap.size := HBL5.out.size
        have f0 : w6.cell? ⟨w4.heap.size, 0, none⟩ = some (.string kx) := by
          rw [← HK0.out]
          refine World.cell?_of_block (hgr6.block w4.heap.size (by simp; omega) (fun e => ?_))
          have := (hobl _ e.symm).2
          omega
        have HN : Hid (Bytes w6 ao7 n7 (placesN l a) ∧ w6.ownsRow (g + 1) 51 4 v6 (L + 1) (flatE l ++ encE (E.mk kx vx dx qx)) ∧ (∀ x, ao7 = some x → x.block < w6.heap.size ∧ x.block ≠ g ∧ v6.ownBlock ≠ some x.block) ∧ CurAt w6 g (.slice (some ⟨b, off, none⟩) m c) (a + k) ∧ Below w.heap.size w w6) := by
          refine ⟨?_, hown6, ?_, ?_, ?_⟩
          · exact bytes_grown (bytes_kept HBY4.out HBL5.out (Nat.le_refl _)) hgr6 (fun x hx => ⟨Nat.lt_of_lt_of_le (HNE4.out x hx).1 hzA, (HNE4.out x hx).2.2⟩)
          · intro x hx
            obtain ⟨h1, h2, h3⟩ := HNE4.out x hx
            refine ⟨Nat.lt_of_lt_of_le (Nat.lt_of_lt_of_le h1 hzA) hgr6.size, h2, fun hk => ?_⟩
            rcases hsp6 with h4 | ⟨g', h4, h5⟩
            · rw [h4] at hk; exact h3 hk
            · rw [h4] at hk; cases hk; omega
          · have h1 := HC4.out.below HBL5.out (Nat.le_refl _)
            unfold CurAt at h1 ⊢
            rw [hgr6.block g (Nat.lt_of_lt_of_le hgl4 hzA) (fun e => ?_)]
            · exact h1
            · have := (hobl _ e.symm).1
              omega
          · refine (HBE4.out.trans (HBL5.out.mono HBE4.out.size)).grown hgr6 (Nat.le_trans HBE4.out.size hzA) (fun k hk => ?_)
            have := (hobl k hk).1
            have := HGE.out
            omega
        clear hown6 hgr6 hsp6 hobl hzA HOA HCA HBA HBL5 HK0 HB5
        go_wp2
        go_roundw
        case rel =>
          refine ⟨l ++ [⟨kx, vx, dx, qx⟩], a + k, n7, c7, ao7, HIN, by rw [last_snoc], rfl, hn7, hc7, H07, ?_, ?_, HN.out.2.2.1, HN.out.2.2.2.1, HN.out.2.2.2.2⟩
          · show Bytes _ _ _ _
            rw [places_snoc l _ a (par_len HI.out)]
            exact HN.out.1
          · show World.ownsRow _ _ _ _ _ _ _
            rw [flatE_append, List.length_append, HLL.out]
            simpa [flatE] using HN.out.2.1
        case measure =>
          have h1 := HCU.out.cells.2
          have h2 := HN.out.2.2.2.1.cells.2
          rw [h1, h2]
          simp only [Option.getD_some, intOf, Int.toNat_natCast]
          omega
end Go.Proofs.YtcgjhopfdpaocaaDoor
namespace Go.Proofs.YtcgjhopfdpaocaaDoor
open Go.RowKit Go.Sort Go.Shelf
set_option linter.unusedSectionVars false
variable [Inhabited E] [DecidableEq E]
/-- The bytes are the block of l, and of no other list. -/
def IsBlock (bs : List UInt8) (l : List E) : Prop := fitB l = true ∧ blockB l = bs ∧ ∀ l0, fitB l0 = true → blockB l0 = bs → l0 = l
def NoBlock (bs : List UInt8) : Prop := ∀ l, fitB l = true → blockB l ≠ bs
theorem isBlock_of {l : List E} {bs : List UInt8} (hf : fitB l = true) (hb : blockB l = bs) : ¬ NoBlock bs := fun h => h l hf hb
def ParSays (bs : List UInt8) (e : Ending) (w' : World) : Prop :=
  (e = .returned (.tuple #[.slice none 0 0, .int .i64 2]) ∧ NoBlock bs) ∨ ∃ l ao c, e = .returned (.tuple #[.slice ao l.length c, .int .i64 0]) ∧ IsBlock bs l ∧ EntsV w' ao l.length l ∧ l.length ≤ c ∧ c ≤ 9223372036854775807
theorem own_same {w w' : World} {base n g : Nat} {v : Value} {xs : List Value} (h : w.ownsRow base 51 4 v n xs) (hg : ∀ k, k ≠ g → w'.heap[k]? = w.heap[k]?) (hgb : g < base) : w'.ownsRow base 51 4 v n xs := by
  refine ⟨h.1, ?_⟩
  rcases h.2 with h2 | ⟨k, cap, cur, h1, h2, h3, h4⟩
  · exact .inl h2
  · refine .inr ⟨k, cap, cur, h1, h2, ?_, h4⟩
    rw [hg k (by omega)]
    exact h3
theorem own_caps {w : World} {base : Nat} {v : Value} {l : List E} (h : w.ownsRow base 51 4 v l.length (flatE l)) : ∃ ao c, v = .slice ao l.length c ∧ EntsV w ao l.length l ∧ l.length ≤ c ∧ c ≤ 9223372036854775807 := by
  obtain ⟨ao, c, h1, h2⟩ := own_out h
  refine ⟨ao, c, h1, h2, ?_⟩
  rcases h.2 with ⟨h3, h4⟩ | ⟨k, cap, cur, h3, _, _, h5, h6, _⟩
  · rw [h1] at h3
    obtain ⟨_, e2, e3⟩ := Value.slice.inj h3
    omega
  · rw [h1] at h3
    obtain ⟨_, e2, e3⟩ := Value.slice.inj h3
    unfold maxLen at h6
    omega
theorem parseb_any (ao : Option Addr) (n c : Nat) (bs : List UInt8) (w : World) (hb : Bytes w ao n bs) (hnc : n ≤ c) (hc : c ≤ 9223372036854775807) (hn : n ≤ 1000000) :
    Calls Tryd.prog 71 #[.slice ao n c] w fun e w' => Below w.heap.size w w' ∧ ParSays bs e w' := by
  refine parse_of_list ao n c w _ (fun o => ?_)
  refine (list_any ao n c bs (w.alloc o) (bytes_kept hb (bel_alloc w o) (Nat.le_refl _)) hnc hc hn).mono ?_
  rintro e w' ⟨hbel, h⟩
  have hbel' : Below (w.heap.size + 1) (w.alloc o) w' := by simpa using hbel
  refine ⟨hbel', ?_⟩
  rcases h with ⟨rfl, hno⟩ | ⟨l, v, rfl, h1, h2, h3, h4⟩
  · exact .inl ⟨rfl, fun w'' hw => ⟨hw, .inl ⟨rfl, hno⟩⟩⟩
  · refine .inr ⟨v, rfl, fun w'' hk hw => ⟨hw, .inr ?_⟩⟩
    have h5 := own_same (g := w.heap.size) h4 hk (by simp)
    obtain ⟨ao', c', rfl, h6, h7, h8⟩ := own_caps h5
    exact ⟨l, ao', c', rfl, ⟨h1, h2, h3⟩, h6, h7, h8⟩
def zeroE : Value := .agg #[.string ByteArray.empty, .string ByteArray.empty, .bool false, .int .i64 0]
/-- What Seek tells of a list. -/
def seekV (l : List E) (key : ByteArray) : Value := if belowN key l < l.length then .tuple #[.agg (encE l[belowN key l]!).toArray, .bool true, .int .i64 0] else .tuple #[zeroE, .bool false, .int .i64 0]
def SeekSays (bs : List UInt8) (key : ByteArray) (e : Ending) : Prop :=
  (e = .returned (.tuple #[zeroE, .bool false, .int .i64 2]) ∧ NoBlock bs) ∨ ∃ l, e = .returned (seekV l key) ∧ IsBlock bs l
end Go.Proofs.YtcgjhopfdpaocaaDoor
namespace Go.Proofs.YtcgjhopfdpaocaaDoor
open Go.RowKit Go.Sort Go.Shelf
set_option linter.unusedSectionVars false
variable [Inhabited E] [DecidableEq E]
/-- Entries, folded, those that are right, at most as many as a block has. -/
def fitS (es : List E) : List E := ((foldS (fewS 130 1030 70 es)).filter rightB).take 64
theorem insS_all {p : E → Prop} {a : List E} {e : E} (ha : ∀ x ∈ a, p x) (he : p e) : ∀ x ∈ insS a e, p x := by
  intro x hx
  rcases insS_mem hx with rfl | h
  · exact he
  · exact ha x h
theorem foldl_all {p : E → Prop} : ∀ (l a : List E), (∀ x ∈ a, p x) → (∀ x ∈ l, p x) → ∀ x ∈ l.foldl insS a, p x
  | [], _, ha, _ => ha
  | e :: l, a, ha, hl => foldl_all l (insS a e) (insS_all ha (hl e (List.mem_cons_self ..))) (fun x hx => hl x (List.mem_cons_of_mem _ hx))
theorem foldS_all {p : E → Prop} {l : List E} (h : ∀ x ∈ l, p x) : ∀ x ∈ foldS l, p x := foldl_all l [] (fun _ hx => by cases hx) h
theorem fitS_right (es : List E) : (fitS es).all rightB = true := by
  rw [List.all_eq_true]
  intro e he
  exact (List.mem_filter.1 (List.mem_of_mem_take he)).2
theorem fitS_ks (es : List E) : Ks (fitS es) := ((ks_foldS _).sublist List.filter_sublist).sublist (List.take_sublist _ _)
theorem fitS_len (es : List E) : (fitS es).length ≤ 64 := by unfold fitS; rw [List.length_take]; omega
theorem fitS_fit (es : List E) (h : 1 ≤ (fitS es).length) : fitB (fitS es) = true := by
  unfold fitB
  rw [decide_eq_true ⟨h, fitS_len es⟩, fitS_right, sortedB_ks.2 (fitS_ks es)]
  rfl
theorem right_small {es : List E} (h : es.all rightB = true) : Small es := by
  intro e he
  rw [List.all_eq_true] at h
  obtain ⟨h1, h2, _⟩ := right_parts (h e he)
  exact ⟨by omega, by omega⟩
set_option maxRecDepth 100000 in
set_option maxHeartbeats 4000000 in
theorem fit4_any (ao : Option Addr) (n c : Nat) (es : List E) (w : World) (hE : EntsV w ao n es) (hsm : Small es) (hbig : n ≤ 9223372036854775807) :
    Calls Tryd.prog 25 #[.slice ao n c] w fun e w' => ∃ v', e = .returned v' ∧ w'.ownsRow w.heap.size 51 4 v' (fitS es).length (flatE (fitS es)) ∧ Below w.heap.size w w' := by
  obtain ⟨i0, hi, hz0, hz1, hz2⟩ := info_parts info23
  obtain ⟨out, HOUT⟩ : ∃ o, Hid (fitS es = o) := ⟨_, rfl⟩
  rw [HOUT.out]
  go_enter Tryd.func25, Tryd.ntmps25
  go_wp2_with fail
  refine (few4_any ao n c 70 es w hE hsm hbig (by omega)).mono ?_
  rintro e w1 ⟨v1, rfl, hown1, hb1⟩
  have hl1 := fewS_len 130 1030 70 es
  have hs1 := fewS_small 130 1030 70 es hsm
  obtain ⟨fs, HF⟩ : ∃ fs, Hid (fewS 130 1030 70 es = fs) := ⟨_, rfl⟩
  rw [HF.out] at hown1 hl1 hs1
  obtain ⟨ao1, c1, rfl, hE1⟩ := own_entsV hown1 rfl
  have HB1 : Hid _ := hb1
  clear hown1 hb1 hE hsm
  have h70 : fs.length ≤ 70 := by omega
  clear hl1
  go_wp2_with fail
  refine (fold_any ao1 fs.length c1 fs w1 hE1 (by omega)).mono ?_
  rintro e w2 ⟨v2, rfl, hown2, hb2⟩
  have hl2 := foldS_len fs
  have hs2 : Small (foldS fs) := foldS_all hs1
  have HOF : Hid (out = ((foldS fs).filter rightB).take 64) := by show _ = _; rw [← HOUT.out, fitS, HF.out]
  obtain ⟨f, HG⟩ : ∃ f, Hid (foldS fs = f) := ⟨_, rfl⟩
  rw [HG.out] at hown2 hl2 hs2 HOF
  obtain ⟨ao2, c2, rfl, hE2⟩ := own_entsV hown2 rfl
  obtain ⟨l, HL⟩ : ∃ l, Hid (f.length = l) := ⟨_, rfl⟩
  have hl70 : l ≤ 70 := by rw [← HL.out]; omega
  rw [HL.out] at hE2 ⊢
  have HE2 : Hid _ := hE2
  have HS2 : Hid _ := hs2
  have HB2 : Hid (Below w.heap.size w w2) := HB1.out.trans (hb2.mono HB1.out.size)
  clear hown2 hb2 hE1 hE2 hs1 hs2 hl2
  go_wp2
  go_loopw [3, 5] (fun o x wr => ∃ i : Nat, x = .int .i64 i ∧ i ≤ l ∧ ((f.take i).filter rightB).length ≤ 64 ∧ wr.ownsRow w2.heap.size 51 4 o ((f.take i).filter rightB).length (flatE ((f.take i).filter rightB)) ∧ Below w2.heap.size w2 wr) (fun _ x _ => l - (intOf x).toNat)
  case atStart => exact ⟨0, rfl, by omega, by simp, World.ownsRow_nil _ _ _ _, Below.refl _ _⟩
  case round =>
    obtain ⟨i, rfl, hil, h64, hown, hbel⟩ := hrel
    obtain ⟨done, HD⟩ : ∃ d, Hid ((f.take i).filter rightB = d) := ⟨_, rfl⟩
    rw [HD.out] at h64 hown
    obtain ⟨aod, cd, hvd, hEd⟩ := own_entsV hown rfl
    subst hvd
    obtain ⟨dl, HDL⟩ : ∃ d, Hid (done.length = d) := ⟨_, rfl⟩
    rw [HDL.out] at hown h64
    rw [HDL.out]
    have HO : Hid _ := And.intro hown hbel
    clear hown hbel hEd
    by_cases hlt : i < l
    · have hltz : (i : Int) < (l : Int) := by omega
      by_cases hd64 : dl < 64
      · have hd64z : (dl : Int) < 64 := by omega
        obtain ⟨b, off, hao, hEn⟩ := HE2.out.2 (by omega)
        have hEr : Ents wr b off f := hEn.below HO.out.2 (Nat.le_refl _)
        obtain ⟨k0, v0, d0, q0, HX⟩ : ∃ k0 v0 d0 q0, Hid (f[i]! = E.mk k0 v0 d0 q0) := ⟨_, _, _, _, rfl⟩
        obtain ⟨c0, c1', c2', c3⟩ := ents_four hEr i (by rw [HL.out]; omega) HX.out
        obtain ⟨s0, s1⟩ := small_at HS2.out i (by rw [HL.out]; omega) HX.out
        subst hao
        obtain ⟨r, HR⟩ : ∃ r, Hid (rightB ⟨k0, v0, d0, q0⟩ = r) := ⟨_, rfl⟩
        have CR := fun w => right_any k0 v0 d0 q0 w s0 s1
        rw [HR.out] at CR
        have HCR : Hid _ := CR
        have HSN : Hid ((f.take (i + 1)).filter rightB = done ++ if r then [⟨k0, v0, d0, q0⟩] else []) := by
          show _ = _
          rw [take_snoc f i (by rw [HL.out]; omega), List.filter_append, HD.out, HX.out]
          congr 1
          rw [List.filter_cons, HR.out]
          cases r <;> simp
        have HEN : Hid _ := hEn
        clear CR hEr hEn s0 s1
        go_wp2_with fail
        refine (HCR.out _).mono ?_
        rintro e w4 ⟨rfl, hb4⟩
        have hB4 : Below w2.heap.size w2 w4 := HO.out.2.trans (hb4.mono HO.out.2.size)
        have HO4 : Hid (w4.ownsRow w2.heap.size 51 4 (.slice aod dl cd) dl (flatE done)) := own_below HO.out.1 hb4 (Nat.le_refl _)
        clear c0 c1' c2' c3 hb4
        cases r with
        | false =>
          have HN : Hid _ := hB4
          clear hB4
          go_wp2
          go_roundw
          case rel => exact ⟨i + 1, by go_num, by omega, by rw [HSN.out]; simp; rw [HDL.out]; omega, by rw [HSN.out]; simp only [Bool.false_eq_true, if_false, List.append_nil]; rw [HDL.out]; exact HO4.out, HN.out⟩
          case measure => simp [intOf]; omega
        | true =>
          obtain ⟨c0, c1', c2', c3⟩ := ents_four (Ents.below HEN.out hB4 (Nat.le_refl _)) i (by rw [HL.out]; omega) HX.out
          have HOA : Hid ((w4.alloc (Obj.cells #[.string k0, .string v0, .bool d0, .int .i64 q0] 51)).ownsRow w2.heap.size 51 4 (.slice aod dl cd) dl (flatE done)) := HO4.out.alloc _
          have HCA : Hid (∀ j u, (encE (E.mk k0 v0 d0 q0))[j]? = some u → (w4.alloc (Obj.cells #[.string k0, .string v0, .bool d0, .int .i64 q0] 51)).cell? ((⟨w4.heap.size, 0, none⟩ : Addr).add j) = some u) := ent_laid w4 k0 v0 d0 q0
          have HBA : Hid (w2.heap.size ≤ (w4.alloc (Obj.cells #[.string k0, .string v0, .bool d0, .int .i64 q0] 51)).heap.size) := by show _ ≤ _; have := hB4.size; simp; omega
          have HB4 : Hid _ := hB4
          clear hB4
          go_wp2_with (at_builtin; refine wpList_append_own _ rfl (.tmp 25) (.tmp 30) 22 rfl w2.heap.size 51 i0 _ 4 48 Tryd.underlying22 hi hz0 hz1 hz2 rfl (by decide) _ dl (flatE done) rfl HOA.out ⟨w4.heap.size, 0, none⟩ 1 1 (encE (E.mk k0 v0 d0 q0)) rfl rfl HCA.out (encE_one _) (by unfold maxLen; omega) (by omega) HBA.out ?_)
          intro v' w6 hown6 hgr6 _
          have hbel6 : Below w2.heap.size w2 w6 := (HB4.out.alloc HB4.out.size _).trans ((Below.refl _ _).grown hgr6 HBA.out (fun k hk => (HOA.out.lt k hk).1))
          clear hgr6 HOA HCA c0 c1' c2' c3
          have HN : Hid _ := And.intro hown6 hbel6
          clear hown6 hbel6
          go_wp2
          go_roundw
          case rel =>
            refine ⟨i + 1, by go_num, by omega, by rw [HSN.out, List.length_append, HDL.out]; simp; omega, ?_, HN.out.2⟩
            rw [HSN.out, flatE_append, List.length_append, HDL.out]
            simpa [flatE] using HN.out.1
          case measure => simp [intOf]; omega
      · have hd64z : ¬ (dl : Int) < 64 := by omega
        have HFI : Hid (out = done) := by
          show _ = _
          have h1 : f.filter rightB = done ++ (f.drop i).filter rightB := by rw [← HD.out, ← List.filter_append, List.take_append_drop]
          rw [HOF.out, h1, List.take_append_of_le_length (by rw [HDL.out]; omega), List.take_of_length_le (by rw [HDL.out]; omega)]
        have HN : Hid _ := And.intro (ownsRow_mono HO.out.1 HB2.out.size) (HB2.out.trans (HO.out.2.mono HB2.out.size))
        clear HO
        go_wp2
        go_ret
        exact ⟨_, rfl, by rw [HFI.out, HDL.out]; exact HN.out.1, HN.out.2⟩
    · have hltz : ¬ (i : Int) < (l : Int) := by omega
      have HFI : Hid (out = done) := by
        show _ = _
        have h1 := HD.out
        rw [List.take_of_length_le (by rw [HL.out]; omega)] at h1
        rw [HOF.out, h1, List.take_of_length_le (by rw [HDL.out]; omega)]
      have HN : Hid _ := And.intro (ownsRow_mono HO.out.1 HB2.out.size) (HB2.out.trans (HO.out.2.mono HB2.out.size))
      clear HO
      go_wp2
      go_ret
      exact ⟨_, rfl, by rw [HFI.out, HDL.out]; exact HN.out.1, HN.out.2⟩
theorem pressB_small (ah : ByteArray) (e : E) (h : rightB e = true) : (pressB ah e).length ≤ (bytesB e).length + 1 := by
  obtain ⟨h1, h2, qn, h3, h4, h5⟩ := right_parts h
  have hc := (comN_le (strB ah) (strB e.key)).2
  rw [strB_length] at hc
  have hk : (strB e.key).length = e.key.size := strB_length _
  generalize hcc : comN (strB ah) (strB e.key) = c at hc
  have a1 : (putB c).length ≤ c + 1 := by
    by_cases hz : c = 0
    · subst hz; decide
    · by_cases h7 : c < 128
      · rw [putB_small c h7]; simp
      · have := putB_more c (by omega) (by omega)
        rw [this, putB_small _ (by omega)]; simp; omega
  have a2 : (putB (e.key.size - c)).length ≤ (putB e.key.size).length := sz_mono _ _ (by omega)
  unfold pressB bytesB headB textB
  rw [h, hcc]
  simp only [if_true, List.length_append, List.length_cons, List.length_drop, hk]
  cases e.del with
  | true => simp; omega
  | false => simp; omega
/-- How long the bytes of the first entries are together, and one for each. -/
def sumB (es : List E) : Nat → Nat
  | 0 => 0
  | i + 1 => sumB es i + 1 + (bytesB es[i]!).length
theorem bodyB_small (es : List E) (hr : es.all rightB = true) : ∀ i, i ≤ es.length → (bodyB es i).length ≤ sumB es i
  | 0, _ => by simp [bodyB, sumB]
  | i + 1, h => by
    have h1 := bodyB_small es hr i (by omega)
    have h2 := pressB_small (aheadK es i) es[i]! (take_right hr i (by omega))
    rw [bodyB, List.length_append, sumB]; omega
theorem sumB_le (es : List E) : ∀ i, sumB es i ≤ 1201 * i
  | 0 => by simp [sumB]
  | i + 1 => by
    have h1 := sumB_le es i
    have h2 := bytesB_len es[i]!
    rw [sumB]; omega
end Go.Proofs.YtcgjhopfdpaocaaDoor
namespace Go.Proofs.YtcgjhopfdpaocaaDoor
open Go.RowKit Go.Sort Go.Shelf
set_option linter.unusedSectionVars false
variable [Inhabited E] [DecidableEq E]
def nul : ByteArray := ⟨#[0]⟩
/-- The key that is sought at the i-th time. -/
def keyN (l : List E) : Nat → ByteArray
  | 0 => ⟨#[]⟩
  | i + 1 => l[i]!.key ++ nul
theorem cb_nul : ∀ a b : List UInt8, Lib.compareBytes a (b ++ [0]) < 0 ↔ Lib.compareBytes a b ≤ 0
  | [], [] => by decide
  | [], _ :: _ => by simp [Lib.compareBytes]
  | x :: xs, [] => by
    have h0 : ¬ x < 0 := by simp
    simp only [List.nil_append, Lib.compareBytes, h0, if_false]
    split
    · simp
    · cases xs <;> simp [Lib.compareBytes]
  | x :: xs, y :: ys => by
    simp only [List.cons_append, Lib.compareBytes]
    split
    · simp
    · split
      · simp
      · exact cb_nul xs ys
theorem cmpS_nul (a b : ByteArray) : cmpS a (b ++ nul) < 0 ↔ cmpS a b ≤ 0 := by
  unfold cmpS
  rw [← cb_nul]
  simp [nul]
theorem cmpS_none (a : ByteArray) : ¬ cmpS a ⟨#[]⟩ < 0 := by
  unfold cmpS
  cases a.data.toList <;> simp [Lib.compareBytes]
theorem below_of {l : List E} (hk : Ks l) (key : ByteArray) (p : Nat) (hp : p ≤ l.length) (h : ∀ i, i < l.length → (cmpS l[i]!.key key < 0 ↔ i < p)) : belowN key l = p := by
  have h1 := belowN_le key l
  have h2 := fun i hi => (ks_place key hk i hi)
  rcases Nat.lt_trichotomy (belowN key l) p with hlt | heq | hgt
  · have := (h2 (belowN key l) (by omega)).1 ((h _ (by omega)).2 hlt)
    omega
  · exact heq
  · have := (h p (by omega)).1 ((h2 p (by omega)).2 hgt)
    omega
theorem ks_less {l : List E} (hk : Ks l) (i j : Nat) (hj : j < l.length) (h : i < j) : cmpS l[i]!.key l[j]!.key < 0 := by
  have := List.pairwise_iff_getElem.1 hk i j (by omega) hj h
  rw [getElem!_pos l i (by omega), getElem!_pos l j hj]
  exact this
theorem cmp_at {l : List E} (hk : Ks l) (i j : Nat) (hi : i < l.length) (hj : j < l.length) : (cmpS l[i]!.key l[j]!.key < 0 ↔ i < j) ∧ (cmpS l[i]!.key l[j]!.key ≤ 0 ↔ i ≤ j) := by
  rcases Nat.lt_trichotomy i j with h | h | h
  · have h1 := ks_less hk i j hj h
    exact ⟨⟨fun _ => h, fun _ => h1⟩, ⟨fun _ => by omega, fun _ => by omega⟩⟩
  · subst h
    have h1 : cmpS l[i]!.key l[i]!.key = 0 := cmpS_eq.2 rfl
    rw [h1]
    exact ⟨⟨fun h => by omega, fun h => by omega⟩, ⟨fun _ => Nat.le_refl _, fun _ => by omega⟩⟩
  · have h1 := ks_less hk j i hi h
    have h2 := (cmpS_ord.1 l[j]!.key l[i]!.key).1 h1
    exact ⟨⟨fun h => by omega, fun h => by omega⟩, ⟨fun h => by omega, fun h => by omega⟩⟩
theorem below_at {l : List E} (hk : Ks l) (j : Nat) (hj : j < l.length) : belowN l[j]!.key l = j :=
  below_of hk _ j (Nat.le_of_lt hj) (fun i hi => (cmp_at hk i j hi hj).1)
theorem below_next {l : List E} (hk : Ks l) (j : Nat) (hj : j < l.length) : belowN (l[j]!.key ++ nul) l = j + 1 :=
  below_of hk _ (j + 1) hj (fun i hi => by rw [cmpS_nul, (cmp_at hk i j hi hj).2]; omega)
theorem below_keyN {l : List E} (hk : Ks l) : ∀ i, i ≤ l.length → belowN (keyN l i) l = i
  | 0, _ => below_of hk _ 0 (Nat.zero_le _) (fun i _ => ⟨fun h => absurd h (cmpS_none _), fun h => by omega⟩)
  | i + 1, h => below_next hk i h
theorem fit_ks {l : List E} (h : fitB l = true) : Ks l := by
  unfold fitB at h; simp only [Bool.and_eq_true] at h; exact sortedB_ks.1 h.2
theorem seek_of {l : List E} (hf : fitB l = true) {key : ByteArray} {e : Ending} (h : SeekSays (blockB l) key e) : e = .returned (seekV l key) := by
  rcases h with ⟨_, hno⟩ | ⟨l0, he, hIB⟩
  · exact absurd rfl (hno l hf)
  · rw [he, hIB.2.2 l hf rfl]
theorem seekV_in {l : List E} {key : ByteArray} {p : Nat} (hb : belowN key l = p) (hp : p < l.length) : seekV l key = .tuple #[.agg (encE l[p]!).toArray, .bool true, .int .i64 0] := by
  unfold seekV; rw [hb, if_pos hp]
theorem seekV_out {l : List E} {key : ByteArray} (hb : belowN key l = l.length) : seekV l key = .tuple #[zeroE, .bool false, .int .i64 0] := by
  unfold seekV; rw [hb, if_neg (Nat.lt_irrefl _)]
theorem blockB_len {l : List E} (h : fitB l = true) : (blockB l).length ≤ 100000 ∧ 8 ≤ (blockB l).length := by
  have h1 := bodyB_len l (fun e he => by have := fit_all h; rw [List.all_eq_true] at this; exact this e he) l.length (Nat.le_refl _)
  have h2 := placesB_len l l.length
  have h3 := fit_len h
  rw [blockB, List.length_append, List.length_append, h2, fixB_len]
  omega
end Go.Proofs.YtcgjhopfdpaocaaDoor
