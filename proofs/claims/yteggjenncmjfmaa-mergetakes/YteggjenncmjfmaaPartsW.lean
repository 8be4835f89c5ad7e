/-
  What is merged in two goes is merged in one: what the law MergeParts answers, for any arguments.
-/
import Derived.Test.YteggjenncmjfmaaMgR
namespace Go.Proofs.Yteggjenncmjfmaa
open Go.RowKit
set_option linter.unusedSectionVars false
set_option linter.unusedVariables false
variable [Inhabited E] [DecidableEq E] [Inhabited RV]
theorem wneg {a : Int} {r : Nat} (h : -(a + 1) = (r : Int)) (hr : r ≤ 9223372036854775807) : wrap64 (a + 1) = a + 1 ∧ wrap64 (-(a + 1)) = (r : Int) := by unfold wrap64; omega
theorem modcast1 (r i : Nat) : (r : Int) % ((i : Int) + 1) = ((r % (i + 1) : Nat) : Int) := by
  have h : (r : Int) % ((i + 1 : Nat) : Int) = ((r % (i + 1) : Nat) : Int) := rfl
  rwa [show ((i + 1 : Nat) : Int) = (i : Int) + 1 by omega] at h
theorem lkF_append (k : ByteArray) : ∀ A B : List (List E), lkF k (A ++ B) = (lkF k A).or (lkF k B)
  | [], B => by rw [List.nil_append, lkF_nil]; rfl
  | a :: A, B => by rw [List.cons_append, lkF_cons, lkF_cons, lkF_append k A B, Option.or_assoc]
theorem filt_true (o : Option E) : (o.filter fun e => !(false && e.del)) = o := by cases o <;> rfl
theorem parts_math {ls : List (List E)} (hr : Rise ls) (k : Nat) (b : Bool) : mergeL [mergeL (ls.take k) false, mergeL (ls.drop k) false] b = mergeL ls b := by
  have h1 : Rise (ls.take k) := fun l hl => hr l (List.mem_of_mem_take hl)
  have h2 : Rise (ls.drop k) := fun l hl => hr l (List.mem_of_mem_drop hl)
  have h3 : Rise [mergeL (ls.take k) false, mergeL (ls.drop k) false] := fun l hl => by
    rcases List.mem_cons.1 hl with rfl | hl
    · exact merge_ks false h1
    · rw [List.mem_singleton.1 hl]; exact merge_ks false h2
  refine ks_ext (merge_ks b h3) (merge_ks b hr) (fun key => ?_)
  rw [merge_lk b h3, merge_lk b hr, lkF_cons, lkF_cons, lkF_nil, merge_lk false h1, merge_lk false h2, filt_true, filt_true]
  have h4 : lkF key ls = (lkF key (ls.take k)).or (lkF key (ls.drop k)) := by rw [← lkF_append, List.take_append_drop]
  rw [h4]
  cases lkF key (List.drop k ls) <;> simp
theorem again_math {ls : List (List E)} (hr : Rise ls) (b : Bool) : mergeL [mergeL ls b] b = mergeL ls b := by
  have h3 : Rise [mergeL ls b] := fun l hl => by rw [List.mem_singleton.1 hl]; exact merge_ks b hr
  refine ks_ext (merge_ks b h3) (merge_ks b hr) (fun key => ?_)
  rw [merge_lk b h3, lkF_cons, lkF_nil, merge_lk b hr]
  cases lkF key ls with
  | none => rfl
  | some e =>
    rw [Option.filter_some]
    cases hb : (!(b && e.del))
    · rfl
    · show Option.filter _ (some e) = some e
      rw [Option.filter_some, hb]; rfl
theorem tot_take_drop (ls : List (List E)) (k : Nat) : tot (ls.take k) + tot (ls.drop k) = tot ls := by
  unfold tot
  rw [← List.sum_append, ← List.map_append, List.take_append_drop]
theorem tot_le {m : Nat} : ∀ {ls : List (List E)}, (∀ l ∈ ls, l.length ≤ m) → tot ls ≤ ls.length * m
  | [], _ => Nat.zero_le _
  | l :: ls, h => by
    have h1 := h l (by simp)
    have h2 := tot_le (ls := ls) (fun x hx => h x (by simp [hx]))
    simp only [tot, List.map_cons, List.sum_cons, List.length_cons] at *
    rw [Nat.add_mul]; omega
theorem rise_tot (ls : List (List E)) : tot (riseL ls) ≤ 720 ∧ (riseL ls).length ≤ 12 := by
  have h1 : (riseL ls).length ≤ 12 := by unfold riseL smallL; rw [List.length_map, List.length_map, List.length_take]; omega
  have h2 : ∀ l ∈ riseL ls, l.length ≤ 60 := fun l hl => by
    obtain ⟨m, hm, rfl⟩ := List.mem_map.1 hl
    obtain ⟨m2, _, rfl⟩ := List.mem_map.1 hm
    have := foldS_len (m2.take 60)
    rw [List.length_take] at this; omega
  have h3 := tot_le h2
  omega
set_option maxRecDepth 100000 in
set_option maxHeartbeats 1000000 in
theorem partsM_walk (ao : Option Addr) (n c : Nat) (Q : List PV) (at0 : Int) (b : Bool) (w : World) (hQ : ∀ p ∈ Q, PIn w p) (hn : Q.length = n) (hcell : 0 < n → ∃ b off, ao = some ⟨b, off, none⟩ ∧ ∀ i p, Q[i]? = some p → w.cell? ⟨b, off + i, none⟩ = some p.v) (hnc : n ≤ c) (hc : c ≤ 9223372036854775807) (hat : -9223372036854775808 ≤ at0 ∧ at0 ≤ 9223372036854775807) :
    Calls Try.prog 5 #[.slice ao n c, .int .i64 at0, .bool b] w fun e w' => e = .returned (.bool true) ∧ Below w.heap.size w w' := by
  subst hn
  obtain ⟨R, hR, hRl, hR0⟩ := lists_of (ao := ao) (Nat.le_trans hnc hc) hQ hcell
  have HL : Hid (ListsV w ao Q.length R ∧ Q.length ≤ 9223372036854775807 ∧ ∀ r ∈ R, r.ao = none → r.c = 0) := ⟨hR, Nat.le_trans hnc hc, hR0⟩
  have HAT : Hid (-9223372036854775808 ≤ at0 ∧ at0 ≤ 9223372036854775807) := hat
  clear hR hRl hR0 hQ hcell hnc hc hat
  go_enter Try.func5, Try.ntmps5
  go_wp2_with fail
  refine (shown_any w).mono ?_
  rintro e w1 ⟨rfl, hb1⟩
  have HB1 : Hid (Below w.heap.size w w1) := hb1
  have HRI : Hid _ := rising_any ao Q.length c R w1 (HL.out.1.below hb1 (Nat.le_refl _)) HL.out.2.1 HL.out.2.2
  clear hb1
  go_wp2_with fail
  refine Calls.mono HRI.out ?_
  rintro e w2 ⟨v, Ps, rfl, hl, ho, hb⟩
  obtain ⟨ls, HLS⟩ : ∃ x, Hid (riseL (R.map RV.l) = x) := ⟨_, rfl⟩
  have HRS : Hid (Rise ls ∧ tot ls ≤ 720 ∧ ls.length ≤ 12) := by rw [← HLS.out]; exact ⟨rise_rise _, rise_tot _⟩
  rw [HLS.out] at hl
  obtain ⟨m, HM⟩ : ∃ m, Hid (Ps.length = m) := ⟨_, rfl⟩
  have HML : Hid (m = ls.length) := by show _ = _; rw [← hl, List.length_map, HM.out]
  obtain ⟨vo, vc, rfl, hvc, hvb⟩ := row_form ho.row
  have HP : Hid (Ps.map PV.l = ls ∧ OwnP w2 w1.heap.size (.slice vo Ps.length vc) Ps ∧ Ps.length ≤ vc ∧ (0 < Ps.length → ∃ b, vo = some ⟨b, 0, none⟩)) := ⟨hl, ho, hvc, hvb⟩
  have HB2 : Hid (Below w.heap.size w w2) := HB1.out.trans (hb.mono HB1.out.size)
  rw [HM.out] at HP ⊢
  have HPL : Hid (Ps.length = m) := HM.out
  clear hl ho hvc hvb hb HRI HL
  go_upto_if 20 with fail
  go_cut [1] (fun s wx => ∃ r : Nat, s = .int .i64 (r : Int) ∧ w2 = wx)
  case first =>
    by_cases hneg : at0 < 0
    · obtain ⟨r, HRR⟩ : ∃ r : Nat, Hid (-(at0 + 1) = (r : Int) ∧ r ≤ 9223372036854775807) := ⟨(-(at0 + 1)).toNat, by have := HAT.out; omega, by have := HAT.out; omega⟩
      obtain ⟨hng, hnr⟩ : wrap64 (at0 + 1) = at0 + 1 ∧ wrap64 (-(at0 + 1)) = (r : Int) := wneg HRR.out.1 HRR.out.2
      clear HRR HAT HP HRS HB2 HB1 HML HPL HLS
      go_wp2_with fail
      go_meet
      case rel => exact ⟨r, by first | rfl | rw [hnr] | simp [hnr], rfl⟩
    · obtain ⟨r, rfl⟩ : ∃ r : Nat, at0 = (r : Int) := ⟨at0.toNat, by omega⟩
      clear HAT HP HRS HB2 HB1 HML HPL HLS
      go_wp2_with fail
      go_meet
      case rel => exact ⟨r, rfl, rfl⟩
  case rest =>
    obtain ⟨r, rfl, rfl⟩ := hcut
    clear HAT
    obtain ⟨k, hrem, HK⟩ : ∃ k : Nat, (r : Int) % ((m : Int) + 1) = (k : Int) ∧ Hid (k ≤ m) := ⟨r % (m + 1), modcast1 r m, Nat.le_of_lt_succ (Nat.mod_lt _ (Nat.succ_pos _))⟩
    have hm12 : (m : Int) ≤ 12 := by have := HRS.out.2.2; have := HML.out; omega
    have hnz : ¬ (m : Int) + 1 = 0 := by omega
    have hinc : wrap64 ((m : Int) + 1) = (m : Int) + 1 := by unfold wrap64; omega
    obtain ⟨nx, hnx⟩ : ∃ a, (if vc = k then vo else Option.map (fun x => x.add k) vo) = a := ⟨_, rfl⟩
    have HNX : Hid (0 < m - k → ∃ b, vo = some ⟨b, 0, none⟩ ∧ nx = some ⟨b, k, none⟩) := fun h => by
      obtain ⟨b, hb⟩ := HP.out.2.2.2 (by omega)
      refine ⟨b, hb, ?_⟩
      rw [← hnx, if_neg (by have := HP.out.2.2.1; omega), hb, Option.map_some, Addr.add_lit, Nat.zero_add]
    have HT1 : Hid (∃ R1, ListsV w2 vo k R1 ∧ R1.map RV.l = ls.take k) := by
      obtain ⟨R1, q1, q2, -⟩ := lists_of (w := w2) (ao := vo) (Q := Ps.take k) (by rw [List.length_take]; have := HPL.out; have := HRS.out; have := HML.out; omega) (fun p hp => HP.out.2.1.pin p (List.mem_of_mem_take hp)) (fun h => by
        rw [List.length_take] at h
        obtain ⟨b, hb⟩ := HP.out.2.2.2 (by have := HPL.out; omega)
        refine ⟨b, 0, hb, fun i p hi => ?_⟩
        rw [List.getElem?_take] at hi
        split at hi
        · have hcl := HP.out.2.1
          rw [hb] at hcl
          rw [Nat.zero_add]; exact hcl.cells i p hi
        · cases hi)
      rw [List.length_take, Nat.min_eq_left (by have := HPL.out; have := HK.out; omega)] at q1
      exact ⟨R1, q1, by rw [q2, List.map_take, HP.out.1]⟩
    have HT2 : Hid (∃ R2, ListsV w2 nx (m - k) R2 ∧ R2.map RV.l = ls.drop k) := by
      obtain ⟨R2, q1, q2, -⟩ := lists_of (w := w2) (ao := nx) (Q := Ps.drop k) (by rw [List.length_drop]; have := HPL.out; have := HRS.out; have := HML.out; omega) (fun p hp => HP.out.2.1.pin p (List.mem_of_mem_drop hp)) (fun h => by
        rw [List.length_drop] at h
        obtain ⟨b, hb, hx⟩ := HNX.out (by have := HPL.out; omega)
        refine ⟨b, k, hx, fun i p hi => ?_⟩
        rw [List.getElem?_drop] at hi
        have hcl := HP.out.2.1
        rw [hb] at hcl
        exact hcl.cells (k + i) p hi)
      rw [List.length_drop, HPL.out] at q1
      exact ⟨R2, q1, by rw [q2, List.map_drop, HP.out.1]⟩
    have HT3 : Hid (∃ R3, ListsV w2 vo m R3 ∧ R3.map RV.l = ls) := by
      obtain ⟨R3, q1, q2, -⟩ := lists_of (w := w2) (ao := vo) (Q := Ps) (by have := HPL.out; have := HRS.out; have := HML.out; omega) (fun p hp => HP.out.2.1.pin p hp) (fun h => by
        obtain ⟨b, hb⟩ := HP.out.2.2.2 (by have := HPL.out; omega)
        refine ⟨b, 0, hb, fun i p hi => ?_⟩
        have hcl := HP.out.2.1
        rw [hb] at hcl
        rw [Nat.zero_add]; exact hcl.cells i p hi)
      rw [HPL.out] at q1
      exact ⟨R3, q1, by rw [q2, HP.out.1]⟩
    obtain ⟨R1, q11, q12⟩ := HT1.out
    obtain ⟨R2, q21, q22⟩ := HT2.out
    obtain ⟨R3, q31, q32⟩ := HT3.out
    have HTT : Hid (tot (ls.take k) ≤ 720 ∧ tot (ls.drop k) ≤ 720) := by have := tot_take_drop ls k; have := HRS.out.2.1; exact ⟨by omega, by omega⟩
    have HA : Hid (Calls Try.prog 11 #[.slice vo k vc, .bool false] w2 fun e w' => ∃ v, e = .returned v ∧ w'.ownsRow w2.heap.size 29 4 v (mergeL (ls.take k) false).length (flatE (mergeL (ls.take k) false)) ∧ Below w2.heap.size w2 w') := by
      have := merge_any vo k vc R1 false w2 q11 (by have := HRS.out; have := HML.out; have := HK.out; omega) (by rw [q12]; have := HTT.out; omega)
      rw [q12] at this; exact this
    have HBq : Hid (∀ W, Below w2.heap.size w2 W → Calls Try.prog 11 #[.slice nx (m - k) (vc - k), .bool false] W fun e w' => ∃ v, e = .returned v ∧ w'.ownsRow W.heap.size 29 4 v (mergeL (ls.drop k) false).length (flatE (mergeL (ls.drop k) false)) ∧ Below W.heap.size W w') := fun W hW => by
      have := merge_any nx (m - k) (vc - k) R2 false W (q21.below hW (Nat.le_refl _)) (by have := HRS.out; have := HML.out; omega) (by rw [q22]; have := HTT.out; omega)
      rw [q22] at this; exact this
    have HC : Hid (∀ W, Below w2.heap.size w2 W → Calls Try.prog 11 #[.slice vo m vc, .bool b] W fun e w' => ∃ v, e = .returned v ∧ w'.ownsRow W.heap.size 29 4 v (mergeL ls b).length (flatE (mergeL ls b)) ∧ Below W.heap.size W w') := fun W hW => by
      have := merge_any vo m vc R3 b W (q31.below hW (Nat.le_refl _)) (by have := HRS.out; have := HML.out; omega) (by rw [q32]; have := HRS.out; omega)
      rw [q32] at this; exact this
    have hkm : (k : Int) ≤ (m : Int) := by have := HK.out; omega
    have hkc : (k : Int) ≤ (vc : Int) := by have := HK.out; have := HP.out.2.2.1; have := HPL.out; omega
    have hmc : (m : Int) ≤ (vc : Int) := by have := HP.out.2.2.1; have := HPL.out; omega
    clear q11 q12 q21 q22 q31 q32 HT1 HT2 HT3
    go_upto_region 6 with fail
    simp only [hrem]
    clear hrem hinc hnz hm12
    go_wp2_with fail
    refine Calls.mono HA.out ?_
    rintro e w3 ⟨va, rfl, hoa, hb3⟩
    obtain ⟨oa, ca, rfl, -⟩ := ent_slice hoa rfl
    have HOA : Hid (w3.ownsRow w2.heap.size 29 4 (.slice oa (mergeL (ls.take k) false).length ca) (mergeL (ls.take k) false).length (flatE (mergeL (ls.take k) false)) ∧ Below w2.heap.size w2 w3) := ⟨hoa, hb3⟩
    have C2 := HBq.out w3 hb3
    clear hoa hb3 HA
    obtain ⟨LA, HLA⟩ : ∃ x, Hid (mergeL (ls.take k) false = x) := ⟨_, rfl⟩
    rw [HLA.out] at HOA ⊢
    go_wp2_with fail
    refine Calls.mono C2 ?_
    rintro e w4 ⟨vb, rfl, hob, hb4⟩
    obtain ⟨ob, cb, rfl, -⟩ := ent_slice hob rfl
    obtain ⟨LB, HLB⟩ : ∃ x, Hid (mergeL (ls.drop k) false = x) := ⟨_, rfl⟩
    rw [HLB.out] at hob ⊢
    have HOB : Hid (w4.ownsRow w3.heap.size 29 4 (.slice ob LB.length cb) LB.length (flatE LB) ∧ Below w3.heap.size w3 w4 ∧ Below w2.heap.size w2 w4) := ⟨hob, hb4, HOA.out.2.trans (hb4.mono HOA.out.2.size)⟩
    have C3 := HC.out w4 HOB.out.2.2
    clear hob hb4 HBq hnx HNX hkm hkc hmc C2
    go_wp2_with fail
    refine Calls.mono C3 ?_
    rintro e w5 ⟨vall, rfl, hoc, hb5⟩
    obtain ⟨oc, cc, rfl, -⟩ := ent_slice hoc rfl
    obtain ⟨LC, HLC⟩ : ∃ x, Hid (mergeL ls b = x) := ⟨_, rfl⟩
    rw [HLC.out] at hoc ⊢
    have HOC : Hid (w5.ownsRow w4.heap.size 29 4 (.slice oc LC.length cc) LC.length (flatE LC) ∧ Below w4.heap.size w4 w5 ∧ Below w3.heap.size w3 w5 ∧ Below w2.heap.size w2 w5) := ⟨hoc, hb5, HOB.out.2.1.trans (hb5.mono HOB.out.2.1.size), HOB.out.2.2.trans (hb5.mono HOB.out.2.2.size)⟩
    have HLN : Hid (LA.length ≤ 720 ∧ LB.length ≤ 720 ∧ LC.length ≤ 720) := by
      have h1 := mergeL_len _ (ls.take k) false (Nat.le_refl _)
      have h2 := mergeL_len _ (ls.drop k) false (Nat.le_refl _)
      have h3 := mergeL_len _ ls b (Nat.le_refl _)
      rw [HLA.out] at h1
      rw [HLB.out] at h2
      rw [HLC.out] at h3
      have h4 := HTT.out
      have h5 := HRS.out.2.1
      exact ⟨by omega, by omega, by omega⟩
    have HM2 : Hid (mergeL [LA, LB] b = LC ∧ mergeL [LC] b = LC) := by
      have h1 := parts_math HRS.out.1 k b
      have h2 := again_math HRS.out.1 b
      rw [HLA.out, HLB.out, HLC.out] at h1
      rw [HLC.out] at h2
      exact ⟨h1, h2⟩
    have HD : Hid (Calls Try.prog 11 #[.slice (some ⟨w5.heap.size, 0, none⟩) 2 2, .bool b] (w5.alloc (.cells #[.slice oa LA.length ca, .slice ob LB.length cb] 25)) fun e w' => ∃ v, e = .returned v ∧ w'.ownsRow (w5.alloc (.cells #[.slice oa LA.length ca, .slice ob LB.length cb] 25)).heap.size 29 4 v LC.length (flatE LC) ∧ Below (w5.alloc (.cells #[.slice oa LA.length ca, .slice ob LB.length cb] 25)).heap.size (w5.alloc (.cells #[.slice oa LA.length ca, .slice ob LB.length cb] 25)) w') := by
      obtain ⟨R4, q1, q2, -⟩ := lists_built (w := w5) (Q := [⟨.slice oa LA.length ca, LA⟩, ⟨.slice ob LB.length cb, LB⟩]) (by simp) (by simp) (fun p hp => by
        rcases List.mem_cons.1 hp with rfl | hp
        · exact (PIn.of_own HOA.out.1).below HOC.out.2.2.1 (Nat.le_refl _)
        · rw [List.mem_singleton.1 hp]; exact (PIn.of_own HOB.out.1).below HOC.out.2.1 (Nat.le_refl _)) #[.slice oa LA.length ca, .slice ob LB.length cb] rfl
      have := merge_any _ 2 2 R4 b _ q1 (by decide) (by rw [q2]; have := HLN.out; simp [tot]; omega)
      rw [q2] at this
      rw [show ([⟨.slice oa LA.length ca, LA⟩, ⟨.slice ob LB.length cb, LB⟩] : List PV).map PV.l = [LA, LB] from rfl, HM2.out.1] at this
      exact this
    clear hoc hb5 HC C3
    go_wp2_with fail
    refine Calls.mono HD.out ?_
    rintro e w6 ⟨vt, rfl, hot, hb6⟩
    obtain ⟨ot, ct, rfl, -⟩ := ent_slice hot rfl
    have HOT : Hid (w6.ownsRow (w5.alloc (.cells #[.slice oa LA.length ca, .slice ob LB.length cb] 25)).heap.size 29 4 (.slice ot LC.length ct) LC.length (flatE LC) ∧ Below w5.heap.size w5 w6) := ⟨hot, (bel_alloc w5 _).trans (hb6.mono (by simp))⟩
    have HE : Hid (Calls Try.prog 11 #[.slice (some ⟨w6.heap.size, 0, none⟩) 1 1, .bool b] (w6.alloc (.cells #[.slice oc LC.length cc] 25)) fun e w' => ∃ v, e = .returned v ∧ w'.ownsRow (w6.alloc (.cells #[.slice oc LC.length cc] 25)).heap.size 29 4 v LC.length (flatE LC) ∧ Below (w6.alloc (.cells #[.slice oc LC.length cc] 25)).heap.size (w6.alloc (.cells #[.slice oc LC.length cc] 25)) w') := by
      obtain ⟨R5, q1, q2, -⟩ := lists_built (w := w6) (Q := [⟨.slice oc LC.length cc, LC⟩]) (by simp) (by simp) (fun p hp => by
        rw [List.mem_singleton.1 hp]; exact (PIn.of_own HOC.out.1).below HOT.out.2 (Nat.le_refl _)) #[.slice oc LC.length cc] rfl
      have := merge_any _ 1 1 R5 b _ q1 (by decide) (by rw [q2]; have := HLN.out; simp [tot]; omega)
      rw [q2] at this
      rw [show ([⟨.slice oc LC.length cc, LC⟩] : List PV).map PV.l = [LC] from rfl, HM2.out.2] at this
      exact this
    clear hot hb6 HD
    go_wp2_with fail
    refine Calls.mono HE.out ?_
    rintro e w7 ⟨vg, rfl, hog, hb7⟩
    obtain ⟨og, cg, rfl, -⟩ := ent_slice hog rfl
    have HOG : Hid (w7.ownsRow (w6.alloc (.cells #[.slice oc LC.length cc] 25)).heap.size 29 4 (.slice og LC.length cg) LC.length (flatE LC) ∧ Below w6.heap.size w6 w7 ∧ Below w5.heap.size w5 w7) := ⟨hog, (bel_alloc w6 _).trans (hb7.mono (by simp)), HOT.out.2.trans (((bel_alloc w6 _).trans (hb7.mono (by simp))).mono HOT.out.2.size)⟩
    have hsl : ∀ {W : World} {B : Nat} {o : Option Addr} {cp : Nat}, W.ownsRow B 29 4 (.slice o LC.length cp) LC.length (flatE LC) → EntsV W o LC.length LC := fun h => by
      obtain ⟨a1, c1, e1, e2, -⟩ := ent_slice h rfl
      cases e1; exact e2
    have HSA : Hid (∀ W, Below w7.heap.size w7 W → EntsV W oc LC.length LC ∧ EntsV W ot LC.length LC ∧ EntsV W og LC.length LC) := fun W hW =>
      ⟨((hsl HOC.out.1).below HOG.out.2.2 (Nat.le_refl _)).below hW (Nat.le_refl _), ((hsl HOT.out.1).below HOG.out.2.1 (Nat.le_refl _)).below hW (Nat.le_refl _), (hsl HOG.out.1).below hW (Nat.le_refl _)⟩
    clear hog hb7 HE hsl
    have S1 : Hid _ := same_any oc LC.length cc LC ot LC.length ct LC w7 (HSA.out w7 (Below.refl _ _)).1 (HSA.out w7 (Below.refl _ _)).2.1 (by have := HLN.out; omega) (by have := HLN.out; omega)
    rw [decide_eq_true (rfl : LC = LC)] at S1
    go_wp2_with fail
    refine Calls.mono S1.out ?_
    rintro e w8 ⟨rfl, hb8⟩
    have S2 : Hid _ := same_any oc LC.length cc LC og LC.length cg LC w8 (HSA.out w8 hb8).1 (HSA.out w8 hb8).2.2 (by have := HLN.out; omega) (by have := HLN.out; omega)
    rw [decide_eq_true (rfl : LC = LC)] at S2
    have HB8 : Hid (Below w7.heap.size w7 w8) := hb8
    clear hb8 S1
    go_wp2_with fail
    refine Calls.mono S2.out ?_
    rintro e w9 ⟨rfl, hb9⟩
    have HB9 : Hid (Below w.heap.size w w9) := by
      have q8 : Below w7.heap.size w7 w9 := HB8.out.trans (hb9.mono HB8.out.size)
      have q5 : Below w5.heap.size w5 w9 := HOG.out.2.2.trans (q8.mono HOG.out.2.2.size)
      have q2 : Below w2.heap.size w2 w9 := HOC.out.2.2.2.trans (q5.mono HOC.out.2.2.2.size)
      exact HB2.out.trans (q2.mono HB2.out.size)
    clear hb9 S2
    go_wp2
    go_ret
    exact ⟨rfl, HB9.out⟩
end Go.Proofs.Yteggjenncmjfmaa
