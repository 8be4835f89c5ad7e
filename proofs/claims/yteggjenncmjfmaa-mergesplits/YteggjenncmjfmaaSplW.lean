/-
  A list in parts: as many as it takes, of nearly one length, all apart: what the law MergeSplits answers, for any list.
-/
import Derived.Test.YteggjenncmjfmaaMsA
namespace Go.Proofs.Yteggjenncmjfmaa
open Go.RowKit
set_option linter.unusedSectionVars false
set_option linter.unusedVariables false
variable [Inhabited E] [DecidableEq E] [Inhabited RV]
set_option maxRecDepth 100000 in
set_option maxHeartbeats 2000000 in
theorem splM_walk (p : PV) (w : World) (hp : PIn w p) : Calls Try.prog 6 #[p.v] w fun e w' => e = .returned (.bool true) ∧ Below w.heap.size w w' := by
  obtain ⟨qo, qc, hqv, hE, hle, hcm, h0⟩ := hp
  obtain ⟨pv, pl⟩ := p
  simp only at hqv hE hle
  subst hqv
  obtain ⟨N, HNN⟩ : ∃ x, Hid (pl.length = x) := ⟨_, rfl⟩
  rw [HNN.out] at hE hle ⊢
  obtain ⟨n, HM⟩ : ∃ x, Hid (min N 1000 = x) := ⟨_, rfl⟩
  obtain ⟨L, HL⟩ : ∃ x, Hid (pl.take n = x) := ⟨_, rfl⟩
  have HLN : Hid (L.length = n) := by show _ = _; rw [← HL.out, List.length_take]; have := HM.out; have := HNN.out; omega
  have HEL : Hid (∀ W, Below w.heap.size w W → EntsV W qo n L) := fun W hW => by rw [← HL.out]; exact (hE.take n (by have := HM.out; omega)).below hW (Nat.le_refl _)
  have HQ : Hid (n ≤ 1000 ∧ n ≤ qc ∧ qc ≤ 9223372036854775807 ∧ (qo = none → qc = 0)) := ⟨by have := HM.out; omega, by have := HM.out; omega, hcm, h0⟩
  have hmz : min (N : Int) 1000 = (n : Int) := by have := HM.out; omega
  have hmc : (n : Int) ≤ (qc : Int) := by have := HQ.out; omega
  have hrc : (N : Int) ≤ 9223372036854775807 := by omega
  clear hE hle hcm h0
  go_enter Try.func6, Try.ntmps6
  go_wp2_with fail
  refine (shown_any w).mono ?_
  rintro e w1 ⟨rfl, hb1⟩
  have HB1 : Hid (Below w.heap.size w w1) := hb1
  have F1 := HEL.out (w1.alloc (.cells #[] 29)) (hb1.alloc hb1.size _)
  clear hb1
  go_wp2_with (at_builtin; refine wpList_append_ents (w1.alloc (.cells #[] 29)) rfl (.tmp 19) (.tmp 20) rfl w1.heap.size (.slice (some ⟨w1.heap.size, 0, none⟩) 0 0) 0 [] rfl (own_emptyE w1) (by simp) qo n qc L rfl F1 HQ.out.2.2.2 (by have := HQ.out; omega) ?_)
  intro v2 w2 ho2 hb2
  rw [HLN.out] at ho2
  obtain ⟨ko, kc, rfl, he2, hk2, hkm, hk0⟩ := ent_slice ho2 HLN.out
  have HB2 : Hid (Below w.heap.size w w2) := HB1.out.trans (((bel_alloc w1 _).trans hb2).mono HB1.out.size)
  have HKE : Hid (∀ W, Below w2.heap.size w2 W → EntsV W ko n L) := fun W hW => he2.below hW (Nat.le_refl _)
  have C1 : Hid _ := split_any ko n kc L w2 he2 hk2 hkm (by have := HQ.out; omega)
  clear ho2 hb2 he2 hk2 hkm hk0 F1
  go_wp2_with fail
  refine Calls.mono C1.out ?_
  rintro e w3 ⟨v3, Ps, rfl, hl3, ho3, hb3⟩
  have HB3 : Hid (Below w2.heap.size w2 w3 ∧ Below w.heap.size w w3) := ⟨hb3, HB2.out.trans (hb3.mono HB2.out.size)⟩
  have C2 : Hid _ := refSplit_any qo n qc L w3 (HEL.out w3 HB3.out.2) HQ.out.2.1 HQ.out.2.2.1 HQ.out.2.2.2 (by have := HQ.out; omega)
  clear C1
  go_wp2_with fail
  refine Calls.mono C2.out ?_
  rintro e w4 ⟨v4, Qs, rfl, hl4, ho4, hb4⟩
  clear C2
  obtain ⟨S, HS⟩ : ∃ x, Hid (splitL L = x) := ⟨_, rfl⟩
  rw [HS.out] at hl3 hl4
  obtain ⟨m, HMS⟩ : ∃ x, Hid (S.length = x) := ⟨_, rfl⟩
  have HMU : Hid (upN n 64 = m ∧ m ≤ 1000) := by
    have h1 := splitL_len L
    rw [HS.out, HMS.out, HLN.out] at h1
    have h2 := upN_le64 n
    have h3 := HQ.out
    exact ⟨h1.symm, by omega⟩
  have HLE : Hid (∀ i, i < m → 1 ≤ S[i]!.length ∧ S[i]!.length ≤ 64 ∧ S[i]!.length ≤ S[0]!.length ∧ S[0]!.length ≤ S[i]!.length + 1 ∧ ∀ j, i = j + 1 → S[i]!.length ≤ S[j]!.length) := fun i hi => by
    have h1 := splitL_lens L i (by rw [HS.out, HMS.out]; exact hi)
    rw [HS.out] at h1
    exact h1
  have hPl : Ps.length = m := by rw [← HMS.out, ← hl3, List.length_map]
  have hQl : Qs.length = m := by rw [← HMS.out, ← hl4, List.length_map]
  obtain ⟨vo, vc, rfl, hvc, hvb⟩ := row_form ho3.row
  obtain ⟨yo, yc, rfl, hyc, hyb⟩ := row_form ho4.row
  rw [hPl] at ho3 ⊢
  rw [hQl] at ho4 ⊢
  have HQS : Hid (Qs.map PV.l = S) := hl4
  have HSP : Hid (SpI w2 w3 w4 w4 (.slice vo m vc) (.slice yo m yc) (.slice none 0 0) S Qs Ps 0) :=
    ⟨ho3.below hb4 (Nat.le_refl _), ho4, World.ownsRow_nil _ _ _ _, fun k hk => (ho3.bounds hk).2, fun k hk => (ho4.bounds hk).2, by rw [hPl, HMS.out], fun j p hp => by
      have h1 := congrArg (fun x => x[j]?) hl3
      simp only [List.getElem?_map, hp, Option.map_some] at h1
      obtain ⟨hj, h2⟩ := List.getElem?_eq_some_iff.1 h1.symm
      rw [getElem!_pos S j hj, h2]
      exact ⟨rfl, fun _ => rfl⟩, HB3.out.1.trans (hb4.mono HB3.out.1.size), Nat.le_refl _, hb4.size⟩
  have H24 : Hid (w2.heap.size ≤ w4.heap.size) := Nat.le_trans HB3.out.1.size hb4.size
  clear hl3 hl4 ho3 ho4 hb4 hPl hQl hvc hvb hyc hyb
  have hm1000 : (m : Int) ≤ 1000 := by have := HMU.out; omega
  have hn1000 : (n : Int) ≤ 1000 := by have := HQ.out; omega
  go_wp2_with fail
  go_loopw [7, 8, 9, 10] (fun s7 s8 _ _ wr => ∃ (i : Nat) (Rs : List PV), s8 = .int .i64 i ∧ i ≤ m ∧ Hid (SpI w2 w3 w4 wr (.slice vo m vc) (.slice yo m yc) s7 S Qs Rs i)) (fun _ s8 _ _ _ => m - (intOf s8).toNat)
  case atStart => exact ⟨0, Ps, rfl, Nat.zero_le _, HSP.out⟩
  case round =>
    clear HSP
    obtain ⟨i, Rs, rfl, him, HI⟩ := hrel
    by_cases hlt : i < m
    · have hltz : (i : Int) < (m : Int) := by omega
      obtain ⟨b, c1, ao, ac, l, e1, e2, e3, e4, e5, e6⟩ := HI.out.at_ i (by rw [HMS.out]; exact hlt)
      obtain ⟨b2, c2, ao2, ac2, f1, f2, f3⟩ := HI.out.wat HQS.out i (by rw [HMS.out]; exact hlt)
      have HLEI := HLE.out i hlt
      obtain ⟨SI, HSI⟩ : ∃ x, Hid (S[i]! = x) := ⟨_, rfl⟩
      obtain rfl : l = SI := by rw [← HSI.out]; exact e6 (Nat.le_refl _)
      obtain ⟨li, HLI⟩ : ∃ x, Hid (l.length = x) := ⟨_, rfl⟩
      rw [HMS.out] at e1 f1
      rw [HSI.out, HLI.out] at e2 e3 e4 f2 f3 HLEI
      cases e1
      cases f1
      obtain ⟨g, rfl⟩ : ∃ g, ao = some ⟨g, 0, none⟩ := by
        have h1 := HI.out.row.parts _ (List.mem_of_getElem? e3)
        obtain ⟨a1, x1, g1, -, g2⟩ := row_form h1
        simp only [Value.slice.injEq] at g1
        obtain ⟨rfl, -, -⟩ := g1
        exact g2 (by show 0 < l.length; rw [HLI.out]; omega)
      have HSM : Hid (∀ z, Calls Try.prog 12 #[.slice (some ⟨g, 0, none⟩) li ac, .slice ao2 li ac2] (wr.drewN z) fun e w' => e = .returned (.bool true) ∧ Below wr.heap.size wr w') := fun z => by
        have hd : Below wr.heap.size wr (wr.drewN z) := bel_drewN (Below.refl _ _) z
        have h1 := same_any (some ⟨g, 0, none⟩) li ac l ao2 li ac2 l (wr.drewN z) (e4.below hd (Nat.le_refl _)) (f3.below hd (Nat.le_refl _)) (by omega) (by omega)
        rw [decide_eq_true (rfl : l = l)] at h1
        exact h1.mono fun e w' ⟨x1, x2⟩ => ⟨x1, hd.trans (x2.mono hd.size)⟩
      have HE3 : Hid (Rs[i]? = some ⟨.slice (some ⟨g, 0, none⟩) li ac, l⟩) := e3
      have HLX : Hid _ := HLEI
      clear e3 e4 e5 e6 f3 HLEI
      go_upto_region 12 with fail
      go_cut [9] (fun s wx => s = .bool true ∧ Hid (Below wr.heap.size wr wx))
      case first =>
        go_region_with (go_at_call 12; refine Calls.mono (HSM.out 1) ?_; rintro e w5 ⟨rfl, hb5⟩)
        all_goals (have HB5 : Hid (Below wr.heap.size wr w5) := hb5)
        all_goals (clear hb5; go_wp2_with fail; go_meet; exact ⟨rfl, HB5⟩)
      case rest =>
        obtain ⟨rfl, HBC⟩ := hcut
        have HI2 : Hid (SpI w2 w3 w4 wc (.slice (some ⟨b, 0, none⟩) m vc) (.slice (some ⟨b2, 0, none⟩) m yc) u7 S Qs Rs i) := HI.out.grow HBC.out
        obtain ⟨x1, x2, x3, x4, x5, y1, y2, -, -, -, -⟩ := HI2.out.at_ i (by rw [HMS.out]; exact hlt)
        obtain ⟨z1, z2, ao0, ac0, z5, v1, v2, -, -, -, -⟩ := HI2.out.at_ 0 (by rw [HMS.out]; omega)
        obtain ⟨l0, HL0⟩ : ∃ x, Hid (S[0]!.length = x) := ⟨_, rfl⟩
        rw [HMS.out] at y1 v1
        rw [HSI.out, HLI.out] at y2
        rw [HL0.out] at v2
        cases y1
        cases v1
        obtain ⟨hli1, hli64, hli0, hl0i, hlip⟩ := HLX.out
        rw [HL0.out] at hli0 hl0i
        have d1 : decide (64 < li) = false := decide_eq_false (by omega)
        have d1' : decide ((64 : Int) < (li : Int)) = false := decide_eq_false (by omega)
        have d2 : decide (l0 < li) = false := decide_eq_false (by omega)
        have d2' : decide ((l0 : Int) < (li : Int)) = false := decide_eq_false (by omega)
        have d3 : decide (li + 1 < l0) = false := decide_eq_false (by omega)
        have d3' : decide ((li : Int) + 1 < (l0 : Int)) = false := decide_eq_false (by omega)
        have hm0z : (0 : Int) < (m : Int) := by omega
        have hli64z : (li : Int) ≤ 64 := by omega
        have hl064z : (l0 : Int) ≤ 65 := by omega
        go_upto_region 13 with fail
        go_cut [98] (fun s wx => s = .bool false ∧ Hid (Below wc.heap.size wc wx))
        case first =>
          by_cases h0 : i = 0
          · subst h0
            obtain rfl : l0 = li := by rw [← HL0.out, HSI.out, HLI.out]
            clear v2
            go_wp2_with fail
            go_quiet (fail)
            go_wp2_with fail
            go_meet
            case rel => exact ⟨rfl, bel_drewN (Below.refl _ _) nq⟩
          · obtain ⟨k, rfl⟩ : ∃ k, i = k + 1 := ⟨i - 1, by omega⟩
            obtain ⟨z1, z2, aop, acp, z5, v3, v4, -, -, -, -⟩ := HI2.out.at_ k (by rw [HMS.out]; omega)
            obtain ⟨lp, HLP⟩ : ∃ x, Hid (S[k]!.length = x) := ⟨_, rfl⟩
            rw [HMS.out] at v3
            rw [HLP.out] at v4
            cases v3
            have hlp := hlip k rfl
            rw [HLP.out] at hlp
            have d4 : decide (lp < li) = false := decide_eq_false (by omega)
            have d4' : decide ((lp : Int) < (li : Int)) = false := decide_eq_false (by omega)
            have hkz : (k : Int) < (m : Int) := by omega
            clear hlip h0
            go_wp2_with fail
            go_quiet (fail)
            go_wp2_with fail
            go_meet
            case rel => exact ⟨rfl, bel_drewN (Below.refl _ _) nq⟩
        case rest =>
          obtain ⟨rfl, hcut⟩ := hcut
          have HI3 : Hid (SpI w2 w3 w4 wc (.slice (some ⟨b, 0, none⟩) m vc) (.slice (some ⟨b2, 0, none⟩) m yc) u7 S Qs Rs i) := HI2.out.grow hcut.out
          clear d1 d1' d2 d2' d3 d3' hm0z hl064z v2 y2 hli64 hli0 hl0i hlip hcut
          obtain ⟨x1, x2, x3, x4, x5, y1, y2, y3, y4, y5, -⟩ := HI3.out.at_ i (by rw [HMS.out]; exact hlt)
          rw [HMS.out] at y1
          rw [HSI.out, HLI.out] at y2 y3 y4
          cases y1
          rw [HE3.out] at y3
          cases y3
          obtain ⟨JL, HJL⟩ : ∃ x, Hid ((S.take i).flatten = x) := ⟨_, rfl⟩
          have HJO : Hid (wc.ownsRow w4.heap.size 29 4 u7 JL.length (flatE JL)) := by rw [← HJL.out]; exact HI3.out.joined
          have HJN : Hid (JL.length ≤ 1000) := by
            have h1 : (S.take i).flatten.length + (S.drop i).flatten.length = n := by
              rw [← List.length_append, ← List.flatten_append, List.take_append_drop, ← HS.out, splitL_flat, HLN.out]
            rw [HJL.out] at h1
            have := HQ.out
            show _ ≤ _
            omega
          have HSZ4 : w4.heap.size ≤ wc.heap.size := HI3.out.size
          go_wp2_with (at_builtin; refine wpList_append_ents wc rfl (.tmp 99) (.tmp 103) rfl w4.heap.size u7 JL.length JL rfl HJO.out HSZ4 (some ⟨g, 0, none⟩) li ac l rfl y4 (fun h => by cases h) (by have := HJN.out; omega) ?_)
          intro v5 w5 ho5 hb5
          rw [← List.length_append] at ho5
          have HI5 : Hid (SpI w2 w3 w4 w5 (.slice (some ⟨b, 0, none⟩) m vc) (.slice (some ⟨b2, 0, none⟩) m yc) v5 S Qs Rs (i + 1)) := HI3.out.append (by rw [HMS.out]; exact hlt) (L := JL ++ l) (by rw [HJL.out, HSI.out]) ho5 hb5 H24.out
          clear ho5 hb5 y2 y4 y5 HSZ4
          go_wp2_with fail
          go_loopw [10] (fun s10 wr => ∃ (j : Nat) (Rs' : List PV) (l' : List E), s10 = .int .i64 j ∧ j ≤ li ∧ Hid (SpI w2 w3 w4 wr (.slice (some ⟨b, 0, none⟩) m vc) (.slice (some ⟨b2, 0, none⟩) m yc) v5 S Qs Rs' (i + 1) ∧ Rs'[i]? = some ⟨.slice (some ⟨g, 0, none⟩) li ac, l'⟩ ∧ l'.length = li)) (fun s10 _ => li - (intOf s10).toNat)
          case atStart => exact ⟨0, Rs, l, rfl, Nat.zero_le _, HI5.out, HE3.out, HLI.out⟩
          case round =>
            obtain ⟨j, Rs', l', rfl, hjl, HJ⟩ := hrel
            obtain ⟨x1, x2, x3, x4, x5, y1, y2, y3, y4, -, -⟩ := HJ.out.1.at_ i (by rw [HMS.out]; exact hlt)
            rw [HMS.out] at y1
            rw [HSI.out, HLI.out] at y2 y3 y4
            rw [HJ.out.2.1] at y3
            cases y1
            cases y3
            by_cases hjl2 : j < li
            · have hjz : (j : Int) < (li : Int) := by omega
              have hown := HJ.out.1.row.parts _ (List.mem_of_getElem? HJ.out.2.1)
              simp only at hown
              rw [HJ.out.2.2] at hown
              obtain ⟨h1, h2, h3, h4, h5, h6, hfz⟩ := own_cells hown
              have HN := HJ.out.1.store HJ.out.2.1 HJ.out.2.2 hjl2 ⟨⟨#[63]⟩, ⟨#[]⟩, false, 0⟩
              have HNN2 : Hid _ := HN
              obtain ⟨ek, ev, ed, eq, HX⟩ : ∃ k0 v0 d0 q0, Hid (l'[j]! = E.mk k0 v0 d0 q0) := ⟨_, _, _, _, rfl⟩
              obtain ⟨q0, q1, q2, q3⟩ := ents_four h1 j (by rw [HJ.out.2.2]; exact hjl2) HX.out
              simp only [Nat.zero_add] at q0 q1 q2 q3
              have f0 := hfz (j * 4)
              have f1 := hfz (j * 4 + 1)
              have f2 := hfz (j * 4 + 2)
              have f3 := hfz (j * 4 + 3)
              clear hown h1 h2 h3 h4 h5 h6 hfz HN y4
              go_wp2_with fail
              go_roundw
              case rel =>
                obtain ⟨l2, n1, n2, n3⟩ := HNN2.out
                exact ⟨j + 1, _, l2, by go_num, by omega, n1, n2, n3⟩
              case measure => simp [intOf]; omega
            · have hjz : ¬ (j : Int) < (li : Int) := by omega
              clear y4 hjl2
              go_wp2_with fail
              go_roundw
              case rel => exact ⟨i + 1, Rs', by go_num, by omega, HJ.out.1⟩
              case measure => simp [intOf]; omega
    · have hltz : ¬ (i : Int) < (m : Int) := by omega
      obtain rfl : i = m := by omega
      have HJO : Hid (wr.ownsRow w4.heap.size 29 4 u7 n (flatE L)) := by
        have h1 := HI.out.joined
        rw [List.take_of_length_le (by rw [HMS.out]; exact Nat.le_refl _), ← HS.out, splitL_flat, HLN.out] at h1
        exact h1
      obtain ⟨jo, jc, rfl, hj1, -⟩ := ent_slice HJO.out HLN.out
      have HBW : Hid (Below w2.heap.size w2 wr ∧ Below w.heap.size w wr) := ⟨HI.out.bel, HB2.out.trans (HI.out.bel.mono HB2.out.size)⟩
      have S1 : Hid _ := same_any jo n jc L qo n qc L wr hj1 (HEL.out wr HBW.out.2) (by have := HQ.out; omega) (by have := HQ.out; omega)
      rw [decide_eq_true (rfl : L = L)] at S1
      have hdiv : ((n : Int) + 64 - 1) / 64 = (i : Int) := by have h1 := HMU.out.1; unfold upN at h1; omega
      clear hlt hj1
      go_wp2_with fail
      refine Calls.mono S1.out ?_
      rintro e w6 ⟨rfl, hb6⟩
      have HB6 : Hid (Below w2.heap.size w2 w6 ∧ Below w.heap.size w w6) := ⟨HBW.out.1.trans (hb6.mono HBW.out.1.size), HBW.out.2.trans (hb6.mono HBW.out.2.size)⟩
      have S2 : Hid _ := same_any ko n kc L qo n qc L w6 (HKE.out w6 HB6.out.1) (HEL.out w6 HB6.out.2) (by have := HQ.out; omega) (by have := HQ.out; omega)
      rw [decide_eq_true (rfl : L = L)] at S2
      clear hb6 S1
      go_wp2_with fail
      refine Calls.mono S2.out ?_
      rintro e w7 ⟨rfl, hb7⟩
      have HB7 : Hid (Below w.heap.size w w7) := HB6.out.2.trans (hb7.mono HB6.out.2.size)
      clear hb7 S2
      go_wp2_with fail
      go_ret
      exact ⟨rfl, HB7.out⟩
end Go.Proofs.Yteggjenncmjfmaa
