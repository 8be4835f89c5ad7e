/-
  Of each key the newest stands, and nothing beside: what the law MergeNewest answers, for any arguments.
-/
import Derived.Test.YteggjenncmjfmaaMgW
namespace Go.Proofs.Yteggjenncmjfmaa
open Go.RowKit
set_option linter.unusedSectionVars false
set_option linter.unusedVariables false
variable [Inhabited E] [DecidableEq E] [Inhabited RV]
set_option maxRecDepth 100000 in
set_option maxHeartbeats 2000000 in
theorem newM_walk (ao : Option Addr) (n c : Nat) (Q : List PV) (b : Bool) (w : World) (hQ : ∀ p ∈ Q, PIn w p) (hn : Q.length = n) (hcell : 0 < n → ∃ b off, ao = some ⟨b, off, none⟩ ∧ ∀ i p, Q[i]? = some p → w.cell? ⟨b, off + i, none⟩ = some p.v) (hnc : n ≤ c) (hc : c ≤ 9223372036854775807) :
    Calls Try.prog 4 #[.slice ao n c, .bool b] w fun e w' => e = .returned (.bool true) ∧ Below w.heap.size w w' := by
  subst hn
  obtain ⟨R, hR, hRl, hR0⟩ := lists_of (ao := ao) (Nat.le_trans hnc hc) hQ hcell
  have HL : Hid (ListsV w ao Q.length R ∧ Q.length ≤ 9223372036854775807 ∧ ∀ r ∈ R, r.ao = none → r.c = 0) := ⟨hR, Nat.le_trans hnc hc, hR0⟩
  clear hR hRl hR0 hQ hcell hnc hc
  go_enter Try.func4, Try.ntmps4
  go_wp2_with fail
  refine (shown_any w).mono ?_
  rintro e w1 ⟨rfl, hb1⟩
  have HB1 : Hid (Below w.heap.size w w1) := hb1
  have HRI : Hid _ := rising_any ao Q.length c R w1 (HL.out.1.below hb1 (Nat.le_refl _)) HL.out.2.1 HL.out.2.2
  clear hb1
  go_wp2_with fail
  refine Calls.mono HRI.out ?_
  rintro e w2 ⟨v, Ps, rfl, hl, ho, hb⟩
  obtain ⟨ls, HLS⟩ : ∃ x, Hid (riseL (R.map RV.l) = x) := ⟨_, rfl⟩
  have HRS : Hid (Rise ls ∧ tot ls ≤ 720 ∧ ls.length ≤ 12) := by rw [← HLS.out]; exact ⟨rise_rise _, rise_tot _⟩
  have HL60 : Hid (∀ u : Nat, ls[u]!.length ≤ 60) := by rw [← HLS.out]; exact rise_at _
  rw [HLS.out] at hl
  obtain ⟨m, HM⟩ : ∃ m, Hid (Ps.length = m) := ⟨_, rfl⟩
  have HML : Hid (ls.length = m) := by show _ = _; rw [← hl, List.length_map, HM.out]
  obtain ⟨vo, vc, rfl, hvc, hvb⟩ := row_form ho.row
  have HB2 : Hid (Below w.heap.size w w2) := HB1.out.trans (hb.mono HB1.out.size)
  have HPT : Hid (∀ W, Below w2.heap.size w2 W → ∀ u, u < m → ∃ g po pc, vo = some ⟨g, 0, none⟩ ∧ W.cell? ⟨g, u, none⟩ = some (.slice po ls[u]!.length pc) ∧ EntsV W po ls[u]!.length ls[u]!) := fun W hW u hu => by
    obtain ⟨g, c1, po, pc, p, e1, -, e2, -, e3, e4, e5, -, -⟩ := (ho.below hW (Nat.le_refl _)).at_ u (by have := HM.out; omega)
    have hp : p.l = ls[u]! := by
      have h1 := congrArg (fun x => x[u]?) hl
      simp only [List.getElem?_map, e3, Option.map_some] at h1
      rw [getElem!_pos ls u (by rw [HML.out]; exact hu)]
      rw [List.getElem?_eq_getElem (by rw [HML.out]; exact hu)] at h1
      exact Option.some.inj h1
    rw [hp] at e2 e5
    cases e1
    exact ⟨g, po, pc, rfl, e2, e5⟩
  have HMG : Hid (Calls Try.prog 11 #[.slice vo m vc, .bool b] w2 fun e w' => ∃ v, e = .returned v ∧ w'.ownsRow w2.heap.size 29 4 v (mergeL ls b).length (flatE (mergeL ls b)) ∧ Below w2.heap.size w2 w') := by
    obtain ⟨R3, q1, q2, -⟩ := lists_of (w := w2) (ao := vo) (Q := Ps) (by have := HML.out; have := HRS.out; have := HM.out; omega) (fun p hp => ho.pin p hp) (fun h => by
      obtain ⟨g, hg⟩ := hvb h
      refine ⟨g, 0, hg, fun i p hi => ?_⟩
      have hcl := ho
      rw [hg] at hcl
      rw [Nat.zero_add]; exact hcl.cells i p hi)
    rw [HM.out] at q1
    have := merge_any vo m vc R3 b w2 q1 (by have := HML.out; have := HRS.out; omega) (by rw [q2, hl]; have := HRS.out; omega)
    rw [q2, hl] at this
    exact this
  have HVC : Hid (m ≤ vc ∧ m ≤ 12) := ⟨by rw [← HM.out]; exact hvc, by have := HML.out; have := HRS.out; omega⟩
  rw [HM.out]
  clear hl ho hvc hvb hb HRI HL HM
  have hm12 : (m : Int) ≤ 12 := by have := HVC.out; omega
  go_wp2_with fail
  refine Calls.mono HMG.out ?_
  rintro e w3 ⟨v3, rfl, ho3, hb3⟩
  obtain ⟨LG, HLG⟩ : ∃ x, Hid (mergeL ls b = x) := ⟨_, rfl⟩
  rw [HLG.out] at ho3
  obtain ⟨go, gc, rfl, he3, -, hgcm, -⟩ := ent_slice ho3 rfl
  obtain ⟨g, HG⟩ : ∃ x, Hid (LG.length = x) := ⟨_, rfl⟩
  have HGE : Hid (∀ W, Below w3.heap.size w3 W → EntsV W go g LG) := fun W hW => by rw [← HG.out]; exact he3.below hW (Nat.le_refl _)
  rw [HG.out]
  have HG720 : Hid (g ≤ 720 ∧ Ks LG) := ⟨by
    have h1 := mergeL_len _ ls b (Nat.le_refl _)
    have h2 := HRS.out.2.1
    rw [HLG.out, HG.out] at h1
    omega, by rw [← HLG.out]; exact merge_ks b HRS.out.1⟩
  have HB3 : Hid (Below w2.heap.size w2 w3 ∧ Below w.heap.size w w3) := ⟨hb3, HB2.out.trans (hb3.mono HB2.out.size)⟩
  clear ho3 hb3 he3 hgcm HMG
  have hg720 : (g : Int) ≤ 720 := by have := HG720.out; omega
  go_wp2_with fail
  go_loopw [8] (fun s wr => ∃ i : Nat, s = .int .i64 i ∧ i ≤ g ∧ Hid (Below w3.heap.size w3 wr)) (fun s _ => g - (intOf s).toNat)
  case atStart => exact ⟨0, rfl, Nat.zero_le _, Below.refl _ _⟩
  case round =>
    obtain ⟨i, rfl, hig, HI⟩ := hrel
    by_cases hlt : i < g
    · have hltz : (i : Int) < (g : Int) := by omega
      by_cases h0 : i = 0
      · subst h0
        clear hig
        go_wp2_with fail
        go_quiet (fail)
        go_wp2_with fail
        go_roundw
        case rel => exact ⟨1, by go_num, by omega, bel_drewN HI.out nq⟩
        case measure => simp [intOf]; omega
      · obtain ⟨k, rfl⟩ : ∃ k, i = k + 1 := ⟨i - 1, by omega⟩
        obtain ⟨bo, off, hao, hEn⟩ := (HGE.out wr HI.out).2 (by omega)
        obtain ⟨k0, v0, d0, q0, HX⟩ : ∃ k0 v0 d0 q0, Hid (LG[k]! = E.mk k0 v0 d0 q0) := ⟨_, _, _, _, rfl⟩
        obtain ⟨k1, v1, d1, q1, HY⟩ : ∃ k0 v0 d0 q0, Hid (LG[k + 1]! = E.mk k0 v0 d0 q0) := ⟨_, _, _, _, rfl⟩
        obtain ⟨c0, -, -, -⟩ := ents_four hEn k (by rw [HG.out]; omega) HX.out
        obtain ⟨c1, -, -, -⟩ := ents_four hEn (k + 1) (by rw [HG.out]; omega) HY.out
        have hks : cmpS k0 k1 < 0 := by
          have := ks_step HG720.out.2 (i := k) (by rw [HG.out]; omega)
          rw [HX.out, HY.out] at this
          exact this
        have e1' : Op.bytesLess k0.toList k1.toList = true := by rw [less_cmpS k0 k1]; exact decide_eq_true hks
        subst hao
        clear hEn h0 hks hlt
        go_wp2_with fail
        go_quiet (fail)
        go_wp2_with fail
        go_roundw
        case rel => exact ⟨k + 2, by go_num, by omega, bel_drewN HI.out nq⟩
        case measure => simp [intOf]; omega
    · have hltz : ¬ (i : Int) < (g : Int) := by omega
      clear hlt
      go_wp2_with fail
      go_loopw [9, 10] (fun s9 s10 wr => ∃ t k : Nat, s10 = .int .i64 t ∧ s9 = .int .i64 k ∧ t ≤ m ∧ Hid (k = cntI b ls t 0 ∧ Below w3.heap.size w3 wr)) (fun _ s10 _ => m - (intOf s10).toNat)
      case atStart => exact ⟨0, 0, rfl, rfl, Nat.zero_le _, rfl, HI.out⟩
      case round =>
        clear HI hltz hig
        obtain ⟨t, k, rfl, rfl, htm, HK⟩ := hrel
        by_cases hlt : t < m
        · have htz : (t : Int) < (m : Int) := by omega
          obtain ⟨q, HQL⟩ : ∃ q, Hid (ls[t]!.length = q) := ⟨_, rfl⟩
          have hq60 : (q : Int) ≤ 60 := by have := HL60.out t; have := HQL.out; omega
          go_wp2_with fail
          go_loopw [9, 11] (fun s9 s11 wr => ∃ i k : Nat, s11 = .int .i64 i ∧ s9 = .int .i64 k ∧ i ≤ q ∧ Hid (k = cntI b ls t i ∧ Below w3.heap.size w3 wr)) (fun _ s11 _ => q - (intOf s11).toNat)
          case atStart => exact ⟨0, k, rfl, rfl, Nat.zero_le _, HK.out⟩
          case round =>
            clear HK
            obtain ⟨i, k, rfl, rfl, hiq, HK⟩ := hrel
            obtain ⟨pg, po, pc, hvo, hcl, hE⟩ := HPT.out wr (HB3.out.1.trans (HK.out.2.mono HB3.out.1.size)) t hlt
            rw [HQL.out] at hcl hE
            subst hvo
            by_cases hiq2 : i < q
            · have hiz : (i : Int) < (q : Int) := by omega
              obtain ⟨pb, poff, hpo, hEn⟩ := hE.2 (by omega)
              obtain ⟨ek, ev, ed, eq, HX⟩ : ∃ k0 v0 d0 q0, Hid (ls[t]![i]! = E.mk k0 v0 d0 q0) := ⟨_, _, _, _, rfl⟩
              obtain ⟨x0, x1, x2, x3⟩ := ents_four hEn i (by rw [HQL.out]; exact hiq2) HX.out
              subst hpo
              have HE0 : Hid _ := hE
              clear hE hEn
              go_upto_region 17 with fail
              obtain ⟨wA, HWA⟩ : ∃ x, Hid (wr.alloc (.cells #[.string ek, .string ev, .bool ed, .int .i64 eq] 29) = x) := ⟨_, rfl⟩
              obtain ⟨ga, HGA⟩ : ∃ x, Hid (wr.heap.size = x) := ⟨_, rfl⟩
              have HCE : Hid (∀ W, Below wA.heap.size wA W → W.cell? ⟨ga, 0, none⟩ = some (.string ek) ∧ W.cell? ⟨ga, 1, none⟩ = some (.string ev) ∧ W.cell? ⟨ga, 2, none⟩ = some (.bool ed) ∧ W.cell? ⟨ga, 3, none⟩ = some (.int .i64 eq)) := fun W hW => by
                have hk : ∀ (j : Nat) v, (#[Value.string ek, .string ev, .bool ed, .int .i64 eq] : Array Value)[j]? = some v → W.cell? ⟨ga, j, none⟩ = some v := fun j v hv => by
                  have h1 : wA.cell? ⟨ga, j, none⟩ = some v := by
                    rw [← HWA.out, ← HGA.out, cell_of_row _ _ _ _ _ _ (show (wr.alloc (.cells #[.string ek, .string ev, .bool ed, .int .i64 eq] 29)).heap[wr.heap.size]? = some (.cells #[.string ek, .string ev, .bool ed, .int .i64 eq] 29 (0, 0)) by rw [heap_alloc_get, if_pos rfl])]
                    exact hv
                  exact bel_cell hW (Nat.le_refl _) h1
                exact ⟨hk 0 _ rfl, hk 1 _ rfl, hk 2 _ rfl, hk 3 _ rfl⟩
              have HBA : Hid (Below w3.heap.size w3 wA) := by show Below _ _ _; rw [← HWA.out]; exact HK.out.2.alloc HK.out.2.size _
              rw [HWA.out, HGA.out]
              have hk780 : (k : Int) ≤ 780 := by have h1 := cnt_le b HL60.out t i; have h2 := HK.out.1; have h3 := HVC.out; omega
              clear x0 x1 x2 x3 hcl
              go_wp2_with fail
              go_loopw [13, 14, 15, 16] (fun s13 s14 _ _ wr => ∃ (u : Nat) (sb : Bool), s14 = .int .i64 u ∧ s13 = .bool sb ∧ u ≤ t ∧ Hid (sb = seenIn ls u ek ∧ Below wA.heap.size wA wr)) (fun _ s14 _ _ _ => t - (intOf s14).toNat)
              case atStart => exact ⟨0, false, rfl, rfl, Nat.zero_le _, rfl, Below.refl _ _⟩
              case round =>
                obtain ⟨u, sb, rfl, rfl, hut, HU⟩ := hrel
                obtain ⟨z0, z1, z2, z3⟩ := HCE.out wr HU.out.2
                by_cases hut2 : u < t
                · have huz : (u : Int) < (t : Int) := by omega
                  have hum : (u : Int) < (m : Int) := by omega
                  obtain ⟨pg2, po2, pc2, hvo2, hcl2, hE2⟩ := HPT.out wr (HB3.out.1.trans ((HBA.out.trans (HU.out.2.mono HBA.out.size)).mono HB3.out.1.size)) u (by omega)
                  cases hvo2
                  obtain ⟨q2, HQ2⟩ : ∃ x, Hid (ls[u]!.length = x) := ⟨_, rfl⟩
                  rw [HQ2.out] at hcl2 hE2
                  obtain ⟨bn, HBN⟩ : ∃ x, Hid (belowN ek ls[u]! = x) := ⟨_, rfl⟩
                  obtain ⟨yn, HYN⟩ : ∃ x, Hid (isIn ek ls[u]! = x) := ⟨_, rfl⟩
                  have HF : Hid (∀ n, Calls Try.prog 15 #[.slice po2 q2 pc2, .string ek] (wr.drewN n) fun e w' => e = .returned (.tuple #[.int .i64 (bn : Nat), .bool yn]) ∧ w' = wr.drewN n) := fun n => by
                    have h1 := refFind_same po2 q2 pc2 ls[u]! ek (wr.drewN n) (hE2.below (bel_drewN (Below.refl _ _) n) (Nat.le_refl _)) (by have := HL60.out u; have := HQ2.out; omega)
                    rw [HBN.out, HYN.out] at h1
                    exact h1
                  have HSS : Hid (seenIn ls (u + 1) ek = (sb || yn)) := by show _ = _; rw [seen_succ ls u ek (by have := HML.out; omega), HYN.out, HU.out.1]
                  clear hE2 hut2 z1 z2 z3
                  go_wp2_with fail
                  go_quiet ((go_at_call 15; exact Calls.quiet_of_same (HF.out _)))
                  cases sb with
                  | true =>
                    go_wp2_with fail
                    go_roundw
                    case rel => exact ⟨u + 1, true, by go_num, rfl, by omega, by rw [HSS.out]; rfl, bel_drewN HU.out.2 nq⟩
                    case measure => simp [intOf]; omega
                  | false =>
                    go_wp2_with fail
                    go_roundw
                    case rel => exact ⟨u + 1, yn, by go_num, rfl, by omega, by rw [HSS.out]; rfl, bel_drewN HU.out.2 nq⟩
                    case measure => simp [intOf]; omega
                · have huz : ¬ (u : Int) < (t : Int) := by omega
                  have HUT : Hid (sb = seenIn ls t (E.mk ek ev ed eq).key) := by show _ = _; rw [HU.out.1, show u = t by omega]
                  have HME : Hid (E.mk ek ev ed eq ∈ ls[t]!) := by
                    show _ ∈ _
                    rw [← HX.out, getElem!_pos ls[t]! i (by rw [HQL.out]; exact hiq2)]; exact List.getElem_mem _
                  have HST : Hid (cntI b ls t (i + 1) = k + if keepE b ls t (E.mk ek ev ed eq) then 1 else 0) := by
                    show _ = _
                    rw [cnt_step b ls t i (by rw [HQL.out]; exact hiq2), HX.out, ← HK.out.1]
                  have HBU : Hid (Below w3.heap.size w3 wr) := HBA.out.trans (HU.out.2.mono HBA.out.size)
                  clear hut2
                  cases sb with
                  | true =>
                    have HKP : Hid (cntI b ls t (i + 1) = k) := by show _ = _; rw [HST.out, keep_seen HUT.out.symm]; rfl
                    clear HST
                    go_wp2_with fail
                    go_roundw
                    case rel => exact ⟨i + 1, k, by go_num, rfl, by omega, HKP.out.symm, HBU.out⟩
                    case measure => simp [intOf]; omega
                  | false =>
                    have hkeep := keep_new (b := b) HUT.out.symm
                    by_cases hd : (b && ed) = true
                    · obtain ⟨rfl, rfl⟩ : b = true ∧ ed = true := by simpa using hd
                      have HKP : Hid (cntI true ls t (i + 1) = k) := by show _ = _; rw [HST.out, hkeep]; rfl
                      clear HST hkeep hd
                      go_wp2_with fail
                      go_roundw
                      case rel => exact ⟨i + 1, k, by go_num, rfl, by omega, HKP.out.symm, HBU.out⟩
                      case measure => simp [intOf]; omega
                    · have hd2 : (b && ed) = false := by simpa using hd
                      have hkt : keepE b ls t (E.mk ek ev ed eq) = true := by rw [hkeep]; show (!(b && ed)) = true; rw [hd2]; rfl
                      have HKP : Hid (cntI b ls t (i + 1) = k + 1) := by show _ = _; rw [HST.out, hkt]; rfl
                      obtain ⟨ka1, ka2, ka3⟩ := kept_at b HRS.out.1 (u := t) (by have := HML.out; omega) HME.out hkt
                      rw [HLG.out] at ka1 ka2 ka3
                      obtain ⟨bn, HBN⟩ : ∃ x, Hid (belowN (E.mk ek ev ed eq).key LG = x) := ⟨_, rfl⟩
                      rw [HBN.out, HG.out] at ka1
                      rw [HBN.out] at ka2
                      have HF : Hid (Calls Try.prog 15 #[.slice go g gc, .string ek] wr fun e w' => e = .returned (.tuple #[.int .i64 (bn : Nat), .bool true]) ∧ w' = wr) := by
                        have h1 := refFind_same go g gc LG ek wr (HGE.out wr HBU.out) (by have := HG720.out; omega)
                        rw [show belowN ek LG = bn from HBN.out, show isIn ek LG = true from ka3] at h1
                        exact h1
                      obtain ⟨gb, goff, hgo, hGn⟩ := (HGE.out wr HBU.out).2 (by omega)
                      obtain ⟨y0, y1, y2, y3⟩ := ents_four hGn bn (by rw [HG.out]; exact ka1) ka2
                      have hbz : (bn : Int) < (g : Int) := by omega
                      have hbd : decide ((g : Int) ≤ (bn : Int)) = false := decide_eq_false (by omega)
                      have hbd2 : decide (g ≤ bn) = false := decide_eq_false (by omega)
                      have heq := fun w => equal23 ek ev ed eq ek ev ed eq w
                      rw [decide_eq_true (rfl : E.mk ek ev ed eq = E.mk ek ev ed eq)] at heq
                      have hg := guard23
                      subst hgo
                      clear HST hkeep hd hkt ka1 ka2 ka3 hGn
                      rcases (by cases b <;> cases ed <;> simp at hd2 ⊢ : b = false ∨ (b = true ∧ ed = false)) with rfl | ⟨rfl, rfl⟩
                      · clear hd2
                        go_wp2_with fail
                        refine Calls.mono HF.out ?_
                        rintro e w4 ⟨rfl, hw4⟩
                        subst hw4
                        clear HF
                        go_wp2_with fail
                        go_quiet (fail)
                        go_wp2_with fail
                        go_roundw
                        case rel => exact ⟨i + 1, k + 1, by go_num, by go_num, by omega, HKP.out.symm, bel_drewN HBU.out nq⟩
                        case measure => simp [intOf]; omega
                      · clear hd2
                        go_wp2_with fail
                        refine Calls.mono HF.out ?_
                        rintro e w4 ⟨rfl, hw4⟩
                        subst hw4
                        clear HF
                        go_wp2_with fail
                        go_quiet (fail)
                        go_wp2_with fail
                        go_roundw
                        case rel => exact ⟨i + 1, k + 1, by go_num, by go_num, by omega, HKP.out.symm, bel_drewN HBU.out nq⟩
                        case measure => simp [intOf]; omega
            · have hiz : ¬ (i : Int) < (q : Int) := by omega
              have HK1 : Hid (k = cntI b ls (t + 1) 0) := by show _ = _; rw [HK.out.1]; exact cnt_end b ls t i (by rw [HQL.out]; omega)
              clear hE
              go_wp2_with fail
              go_roundw
              case rel => exact ⟨t + 1, k, by go_num, rfl, by omega, HK1.out, HK.out.2⟩
              case measure => simp [intOf]; omega
        · have htz : ¬ (t : Int) < (m : Int) := by omega
          have HKG : Hid (k = g) := by
            show _ = _
            rw [HK.out.1, show t = ls.length by have := HML.out; omega, cnt_last b HRS.out.1, HLG.out, HG.out]
          obtain rfl : k = g := HKG.out
          have HBW : Hid (Below w.heap.size w wr) := HB3.out.2.trans (HK.out.2.mono HB3.out.2.size)
          clear hlt
          go_wp2_with fail
          go_ret
          exact ⟨rfl, HBW.out⟩
end Go.Proofs.Yteggjenncmjfmaa
