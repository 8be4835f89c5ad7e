/-
  Merge answers what the document's own answers, and lists that came in stay: what the law MergeTakes answers, for any arguments.
-/
import Derived.Test.YteggjenncmjfmaaMtE
import Derived.Test.YteggjenncmjfmaaMgP
import Derived.Test.YteggjenncmjfmaaMgR
import Derived.Test.YteggjenncmjfmaaMgZ
namespace Go.Proofs.Yteggjenncmjfmaa
open Go.RowKit
set_option linter.unusedSectionVars false
set_option linter.unusedVariables false
variable [Inhabited E] [DecidableEq E] [Inhabited RV]
theorem small_tot (ls : List (List E)) : tot (smallL ls) ≤ 720 ∧ (smallL ls).length ≤ 12 := by
  have h : ∀ l : List (List E), tot (l.map (List.take 60)) ≤ 60 * l.length := by
    intro l
    induction l with
    | nil => exact Nat.le_refl _
    | cons x l ih =>
      simp only [tot, List.map_cons, List.sum_cons, List.length_cons, List.length_take] at ih ⊢
      omega
  refine ⟨?_, ?_⟩
  · have := h (ls.take 12)
    unfold smallL
    rw [List.length_take] at this
    omega
  · unfold smallL
    rw [List.length_map, List.length_take]
    omega
theorem small_get (Q : List PV) (i : Nat) (p : PV) (hq : Q[i]? = some p) (hi : i < 12) : (smallL (Q.map PV.l))[i]? = some (p.l.take 60) := by
  unfold smallL
  rw [List.getElem?_map, List.getElem?_take, if_pos hi, List.getElem?_map, hq]
  rfl
set_option maxRecDepth 100000 in
set_option maxHeartbeats 2000000 in
theorem takesM_walk (ao : Option Addr) (n c : Nat) (Q : List PV) (b : Bool) (w : World) (hQ : ∀ p ∈ Q, PIn w p) (hn : Q.length = n) (hcell : 0 < n → ∃ b off, ao = some ⟨b, off, none⟩ ∧ ∀ i p, Q[i]? = some p → w.cell? ⟨b, off + i, none⟩ = some p.v) (hnc : n ≤ c) (hc : c ≤ 9223372036854775807) :
    Calls Try.prog 3 #[.slice ao n c, .bool b] w fun e w' => e = .returned (.bool true) ∧ Below w.heap.size w w' := by
  subst hn
  obtain ⟨R, hR, hRl, hR0⟩ := lists_of (ao := ao) (Nat.le_trans hnc hc) hQ hcell
  have HL : Hid (ListsV w ao Q.length R ∧ Q.length ≤ 9223372036854775807 ∧ ∀ r ∈ R, r.ao = none → r.c = 0) := ⟨hR, Nat.le_trans hnc hc, hR0⟩
  obtain ⟨ls, HLS⟩ : ∃ x, Hid (smallL (Q.map PV.l) = x) := ⟨_, rfl⟩
  have HTT : Hid (tot ls ≤ 720 ∧ ls.length ≤ 12) := by rw [← HLS.out]; exact small_tot _
  have HS : Hid (∀ W, Below w.heap.size w W → Calls Try.prog 10 #[.slice ao Q.length c] W fun e w' => ∃ v Ps, e = .returned v ∧ Ps.map PV.l = ls ∧ OwnP w' W.heap.size v Ps ∧ Below W.heap.size W w') := fun W hW => by
    have h1 := small_any ao Q.length c R W (HL.out.1.below hW (Nat.le_refl _)) HL.out.2.1 HL.out.2.2
    rw [hRl, HLS.out] at h1
    exact h1
  obtain ⟨n, HNQ⟩ : ∃ x, Hid (Q.length = x) := ⟨_, rfl⟩
  have HLLN : Hid (ls.length ≤ n) := by show _ ≤ _; rw [← HLS.out, ← HNQ.out]; unfold smallL; rw [List.length_map, List.length_take, List.length_map]; omega
  have HCE : Hid (∀ W, Below w.heap.size w W → ∀ i, i < ls.length → ∃ (b off : Nat) (qo : Option Addr) (rn qc : Nat) (l : List E), ao = some ⟨b, off, none⟩ ∧ W.cell? ⟨b, off + i, none⟩ = some (.slice qo rn qc) ∧ l.length = rn ∧ rn ≤ qc ∧ qc ≤ 9223372036854775807 ∧ (∀ V, Below W.heap.size W V → EntsV V qo (min rn 60) (l.take (min rn 60))) ∧ ls[i]? = some (l.take (min rn 60))) := fun W hW i hi => by
    have hiQ : i < Q.length := by have := HLLN.out; rw [HNQ.out]; omega
    obtain ⟨bb, off, e1, e2⟩ := hcell (by omega)
    have hq : Q[i]? = some Q[i] := List.getElem?_eq_getElem hiQ
    obtain ⟨qo, qc, q1, q2, q3, q4, -⟩ := hQ Q[i] (List.getElem_mem hiQ)
    have hcl := e2 i _ hq
    rw [q1] at hcl
    refine ⟨bb, off, qo, Q[i].l.length, qc, Q[i].l, e1, bel_cell hW (Nat.le_refl _) hcl, rfl, q3, q4, fun V hV => ((q2.below hW (Nat.le_refl _)).below hV (Nat.le_refl _)).take _ (by omega), ?_⟩
    rw [← HLS.out, small_get Q i _ hq (by have := HTT.out.2; omega)]
    congr 1
    by_cases h60 : Q[i].l.length ≤ 60
    · rw [show min Q[i].l.length 60 = Q[i].l.length by omega, List.take_of_length_le h60, List.take_length]
    · rw [show min Q[i].l.length 60 = 60 by omega]
  have HNC : Hid (n ≤ c ∧ c ≤ 9223372036854775807) := by rw [← HNQ.out]; exact ⟨hnc, hc⟩
  rw [HNQ.out] at HS ⊢
  clear hR hRl hR0 hQ hcell hnc hc HL HLS
  go_enter Try.func3, Try.ntmps3
  go_wp2_with fail
  refine (shown_any w).mono ?_
  rintro e w1 ⟨rfl, hb1⟩
  have HB1 : Hid (Below w.heap.size w w1) := hb1
  have CS : Hid _ := HS.out w1 hb1
  clear hb1
  go_wp2_with fail
  refine Calls.mono CS.out ?_
  rintro e w2 ⟨v2, Ps, rfl, hl2, ho2, hb2⟩
  have HB2 : Hid (Below w.heap.size w w2 ∧ w1.heap.size ≤ w2.heap.size) := ⟨HB1.out.trans (hb2.mono HB1.out.size), hb2.size⟩
  obtain ⟨m, HM⟩ : ∃ m, Hid (Ps.length = m) := ⟨_, rfl⟩
  have HML : Hid (ls.length = m) := by show _ = _; rw [← hl2, List.length_map, HM.out]
  obtain ⟨vo, vc, rfl, hvc, hvb⟩ := row_form ho2.row
  have HMR : Hid (∀ W, Below w2.heap.size w2 W → ∃ R3, ListsV W vo m R3 ∧ R3.map RV.l = ls) := fun W hW => by
    have ho := ho2.below hW (Nat.le_refl _)
    obtain ⟨R3, q1, q2, -⟩ := lists_of (w := W) (ao := vo) (Q := Ps) (by have := HML.out; have := HTT.out; have := HM.out; omega) (fun p hp => ho.pin p hp) (fun h => by
      obtain ⟨g, hg⟩ := hvb h
      refine ⟨g, 0, hg, fun i p hi => ?_⟩
      have hcl := ho
      rw [hg] at hcl
      rw [Nat.zero_add]; exact hcl.cells i p hi)
    rw [HM.out] at q1
    exact ⟨R3, q1, by rw [q2, hl2]⟩
  have HMG : Hid (Calls Try.prog 11 #[.slice vo m vc, .bool b] w2 fun e w' => ∃ v, e = .returned v ∧ w'.ownsRow w2.heap.size 29 4 v (mergeL ls b).length (flatE (mergeL ls b)) ∧ Below w2.heap.size w2 w') := by
    obtain ⟨R3, q1, q2⟩ := HMR.out w2 (Below.refl _ _)
    have := merge_any vo m vc R3 b w2 q1 (by have := HML.out; have := HTT.out; omega) (by rw [q2]; have := HTT.out; omega)
    rw [q2] at this
    exact this
  have HPT : Hid (∀ W, Below w2.heap.size w2 W → ∀ u, u < m → ∃ (g : Nat) (po : Option Addr) (pc : Nat) (l : List E), vo = some ⟨g, 0, none⟩ ∧ W.cell? ⟨g, u, none⟩ = some (.slice po l.length pc) ∧ EntsV W po l.length l ∧ ls[u]? = some l) := fun W hW u hu => by
    obtain ⟨g, c1, po, pc, p, e1, -, e2, -, e3, e4, e5, -, -⟩ := (ho2.below hW (Nat.le_refl _)).at_ u (by have := HM.out; omega)
    have h1 := congrArg (fun x => x[u]?) hl2
    simp only [List.getElem?_map, e3, Option.map_some] at h1
    cases e1
    exact ⟨g, po, pc, p.l, rfl, e2, e5, h1.symm⟩
  have HVC : Hid (m ≤ vc ∧ m ≤ 12 ∧ m ≤ n) := ⟨by rw [← HM.out]; exact hvc, by have := HML.out; have := HTT.out; omega, by have := HML.out; have := HLLN.out; omega⟩
  rw [HM.out]
  clear hl2 ho2 hvc hvb hb2 HM CS
  go_wp2_with fail
  refine Calls.mono HMG.out ?_
  rintro e w3 ⟨v3, rfl, ho3, hb3⟩
  have HB3 : Hid (Below w2.heap.size w2 w3 ∧ Below w.heap.size w w3) := ⟨hb3, HB2.out.1.trans (hb3.mono HB2.out.1.size)⟩
  obtain ⟨LG, HLG⟩ : ∃ x, Hid (mergeL ls b = x) := ⟨_, rfl⟩
  have HGL : Hid (LG.length ≤ 720) := by
    have h1 := mergeL_len _ ls b (Nat.le_refl _)
    have h2 := HTT.out.1
    show _ ≤ _
    rw [← HLG.out]; omega
  rw [HLG.out] at ho3
  obtain ⟨go, gc, rfl, he3, hg3, hgcm, -⟩ := ent_slice ho3 rfl
  obtain ⟨g, HG⟩ : ∃ x, Hid (LG.length = x) := ⟨_, rfl⟩
  rw [HG.out] at ho3 he3 hg3 HGL ⊢
  have HO3 : Hid (w3.ownsRow w2.heap.size 29 4 (.slice go g gc) g (flatE LG)) := ho3
  have HE3 : Hid (∀ W, Below w3.heap.size w3 W → EntsV W go g LG) := fun W hW => he3.below hW (Nat.le_refl _)
  have CS : Hid _ := HS.out w3 HB3.out.2
  clear ho3 he3 hb3 HMG
  go_wp2_with fail
  refine Calls.mono CS.out ?_
  rintro e w4 ⟨v4, Ps4, rfl, hl4, ho4, hb4⟩
  have HB4 : Hid (Below w3.heap.size w3 w4 ∧ Below w2.heap.size w2 w4 ∧ Below w.heap.size w w4) := ⟨hb4, HB3.out.1.trans (hb4.mono HB3.out.1.size), HB3.out.2.trans (hb4.mono HB3.out.2.size)⟩
  obtain ⟨m4, HM4⟩ : ∃ m, Hid (Ps4.length = m) := ⟨_, rfl⟩
  obtain ⟨yo, yc, rfl, hyc, hyb⟩ := row_form ho4.row
  have CR : Hid (Calls Try.prog 13 #[.slice yo m4 yc, .bool b] w4 fun e w' => ∃ v, e = .returned v ∧ w'.ownsRow w4.heap.size 29 4 v g (flatE LG) ∧ Below w4.heap.size w4 w') := by
    have h1 := refMerge_any yo m4 yc Ps4 b w4 HM4.out (by have := congrArg List.length hl4; rw [List.length_map, HM4.out] at this; have := HTT.out; omega) (fun p hp => ho4.pin p hp) (fun h => by
      obtain ⟨g, hg⟩ := hyb (by rw [HM4.out]; exact h)
      refine ⟨g, 0, hg, fun i p hi => ?_⟩
      have hcl := ho4
      rw [hg] at hcl
      rw [Nat.zero_add]; exact hcl.cells i p hi) (fun h => by
      have hr := ho4.row
      rw [h] at hr
      rcases hr.2 with ⟨hv, -⟩ | ⟨g, cap, cur, hv, -⟩
      · simp only [Value.slice.injEq] at hv
        exact hv.2.2
      · simp only [Value.slice.injEq] at hv
        exact absurd hv.1 (by simp)) (by rw [hl4]; have := HTT.out; omega)
    rw [hl4, HLG.out, HG.out] at h1
    exact h1
  rw [HM4.out]
  clear hl4 ho4 hyc hyb hb4 HM4 CS HS
  go_wp2_with fail
  refine Calls.mono CR.out ?_
  rintro e w5 ⟨v5, rfl, ho5, hb5⟩
  have HB5 : Hid (Below w3.heap.size w3 w5 ∧ Below w2.heap.size w2 w5 ∧ Below w.heap.size w w5) := ⟨HB4.out.1.trans (hb5.mono HB4.out.1.size), HB4.out.2.1.trans (hb5.mono HB4.out.2.1.size), HB4.out.2.2.trans (hb5.mono HB4.out.2.2.size)⟩
  obtain ⟨ko, kc, rfl, he5, -, -, -⟩ := ent_slice ho5 HG.out
  have CM : Hid (Calls Try.prog 12 #[.slice go g gc, .slice ko g kc] w5 fun e w' => e = .returned (.bool true) ∧ Below w5.heap.size w5 w') := by
    have h1 := same_any go g gc LG ko g kc LG w5 (HE3.out w5 HB5.out.1) he5 (by have := HGL.out; omega) (by have := HGL.out; omega)
    rw [decide_eq_true (rfl : LG = LG)] at h1
    exact h1
  clear ho5 hb5 he5 CR HE3
  go_wp2_with fail
  refine Calls.mono CM.out ?_
  rintro e w6 ⟨rfl, hb6⟩
  have HB6 : Hid (Below w3.heap.size w3 w6 ∧ Below w2.heap.size w2 w6 ∧ Below w.heap.size w w6) := ⟨HB5.out.1.trans (hb6.mono HB5.out.1.size), HB5.out.2.1.trans (hb6.mono HB5.out.2.1.size), HB5.out.2.2.trans (hb6.mono HB5.out.2.2.size)⟩
  have HO6 : Hid (w6.ownsRow w2.heap.size 29 4 (.slice go g gc) g (flatE LG)) := own_below HO3.out HB6.out.1 (Nat.le_refl _)
  clear hb6 CM HO3 HB5 HB4 HB3
  have hg720 : (g : Int) ≤ 720 := by have := HGL.out; omega
  have hm12 : (m : Int) ≤ 12 := by have := HVC.out; omega
  go_wp2_with fail
  go_loopw [9] (fun s9 wr => ∃ (i : Nat) (L' : List E), s9 = .int .i64 i ∧ i ≤ g ∧ Hid (wr.ownsRow w2.heap.size 29 4 (.slice go g gc) g (flatE L') ∧ Below w2.heap.size w2 wr ∧ Below w.heap.size w wr ∧ L'.length = g)) (fun s9 _ => g - (intOf s9).toNat)
  case atStart => exact ⟨0, LG, rfl, Nat.zero_le _, HO6.out, HB6.out.2.1, HB6.out.2.2, HG.out⟩
  case round =>
    obtain ⟨i, L', rfl, hig, HI⟩ := hrel
    by_cases hlt : i < g
    · have hltz : (i : Int) < (g : Int) := by omega
      obtain ⟨gb, rfl⟩ : ∃ gb, go = some ⟨gb, 0, none⟩ := by
        obtain ⟨a1, x1, g1, -, g2⟩ := row_form HI.out.1
        simp only [Value.slice.injEq] at g1
        obtain ⟨rfl, -, -⟩ := g1
        exact g2 (by omega)
      obtain ⟨h1, h2, h3, h4, h5, h6, hfz⟩ := own_cells HI.out.1
      obtain ⟨ek, ev, ed, eq, HX⟩ : ∃ k0 v0 d0 q0, Hid (L'[i]! = E.mk k0 v0 d0 q0) := ⟨_, _, _, _, rfl⟩
      obtain ⟨q0, q1, q2, q3⟩ := ents_four h1 i (by rw [HI.out.2.2.2]; exact hlt) HX.out
      simp only [Nat.zero_add] at q0 q1 q2 q3
      have f0 := hfz (i * 4)
      have f1 := hfz (i * 4 + 1)
      have f2 := hfz (i * 4 + 2)
      have f3 := hfz (i * 4 + 3)
      have HN := own_set HI.out.1 i hlt ⟨#[63]⟩ ⟨#[]⟩ false 0
      have HN2 : Hid _ := And.intro HN h2
      clear h1 h2 h3 h4 h5 h6 hfz HN
      go_wp2_with fail
      go_roundw
      case rel =>
        have hw2 : w.heap.size ≤ w2.heap.size := HB2.out.1.size
        exact ⟨i + 1, _, by go_num, by omega, HN2.out.1, (((HI.out.2.1.setCell HN2.out.2 _).setCell HN2.out.2 _).setCell HN2.out.2 _).setCell HN2.out.2 _, (((HI.out.2.2.1.setCell (Nat.le_trans hw2 HN2.out.2) _).setCell (Nat.le_trans hw2 HN2.out.2) _).setCell (Nat.le_trans hw2 HN2.out.2) _).setCell (Nat.le_trans hw2 HN2.out.2) _, by rw [List.length_set]; exact HI.out.2.2.2⟩
      case measure => simp [intOf]; omega
    · have hltz : ¬ (i : Int) < (g : Int) := by omega
      have HBR : Hid (Below w2.heap.size w2 wr ∧ Below w.heap.size w wr) := ⟨HI.out.2.1, HI.out.2.2.1⟩
      rename World => wq
      clear HI hlt
      go_wp2_with fail
      go_loopw [10, 11] (fun s10 _ wr => ∃ i : Nat, s10 = .int .i64 i ∧ i ≤ m ∧ Hid (Below w2.heap.size w2 wr ∧ Below w.heap.size w wr)) (fun s10 _ _ => m - (intOf s10).toNat)
      case atStart => exact ⟨0, rfl, Nat.zero_le _, HBR.out⟩
      case round =>
        obtain ⟨j, rfl, hjm, HJ⟩ := hrel
        by_cases hjt : j < m
        · have hjtz : (j : Int) < (m : Int) := by omega
          have hjnz : (j : Int) < (n : Int) := by have := HVC.out; omega
          obtain ⟨g1, po, pc, l1, rfl, c1, e1, z1⟩ := HPT.out wr HJ.out.1 j hjt
          obtain ⟨b2, off2, qo, rn, qc, l2, rfl, c2, k2, k3, k4, e2, z2⟩ := HCE.out wr HJ.out.2 j (by rw [HML.out]; exact hjt)
          obtain ⟨m2, HM2⟩ : ∃ x, Hid (min rn 60 = x) := ⟨_, rfl⟩
          rw [HM2.out] at e2 z2
          obtain rfl : l1 = l2.take m2 := Option.some.inj (z1.symm.trans z2)
          have hl1 : (l2.take m2).length = m2 := by rw [List.length_take]; have := HM2.out; omega
          rw [hl1] at c1 e1
          have HSM : Hid (∀ z, Calls Try.prog 12 #[.slice po m2 pc, .slice qo m2 qc] (wr.drewN z) fun e w' => e = .returned (.bool true) ∧ Below wr.heap.size wr w') := fun z => by
            have hd : Below wr.heap.size wr (wr.drewN z) := bel_drewN (Below.refl _ _) z
            have h1 := same_any po m2 pc (l2.take m2) qo m2 qc (l2.take m2) (wr.drewN z) (e1.below hd (Nat.le_refl _)) (e2 _ hd) (by have := HM2.out; omega) (by have := HM2.out; omega)
            rw [decide_eq_true (rfl : l2.take m2 = l2.take m2)] at h1
            exact h1.mono fun e w' ⟨x1, x2⟩ => ⟨x1, hd.trans (x2.mono hd.size)⟩
          have hmz : min (rn : Int) 60 = (m2 : Int) := by have := HM2.out; omega
          have hmc : (m2 : Int) ≤ (qc : Int) := by have := HM2.out; omega
          have hrc : (rn : Int) ≤ 9223372036854775807 := by omega
          clear e1 e2 z1 z2 hl1 k2 k3 k4
          go_upto_region 14 with fail
          go_cut [11] (fun s wx => s = .bool true ∧ Hid (Below wr.heap.size wr wx))
          case first =>
            go_region_with (go_at_call 12; refine Calls.mono (HSM.out 1) ?_; rintro e w7 ⟨rfl, hb7⟩)
            all_goals (have HB7 : Hid (Below wr.heap.size wr w7) := hb7)
            all_goals (clear hb7; go_wp2_with fail; go_meet; exact ⟨rfl, HB7⟩)
          case rest =>
            obtain ⟨rfl, HBC⟩ := hcut
            clear c1 c2 hmz hmc hrc HSM
            go_wp2_with fail
            go_roundw
            case rel => exact ⟨j + 1, by go_num, by omega, HJ.out.1.trans (HBC.out.mono HJ.out.1.size), HJ.out.2.trans (HBC.out.mono HJ.out.2.size)⟩
            case measure => simp [intOf]; omega
        · have hjtz : ¬ (j : Int) < (m : Int) := by omega
          go_wp2_with fail
          go_ret
          exact ⟨rfl, HJ.out.2⟩
end Go.Proofs.Yteggjenncmjfmaa
