/-
  The document's Merge: a contract over this translation.
-/
import Derived.Test.YteggjenncmjfmaaMtD
import Derived.Test.YteggjenncmjfmaaMtA
namespace Go.Proofs.Yteggjenncmjfmaa
open Go.RowKit
set_option linter.unusedSectionVars false
set_option linter.unusedVariables false
variable [Inhabited E] [DecidableEq E] [Inhabited RV]
theorem tails_same (k : ByteArray) (ls : List (List E)) (i : Nat) (hi : i < ls.length) (h : passK k ls[i]! = ls[i]!) : tailsN k ls (i + 1) = tailsN k ls i := by
  obtain ⟨h1, h2⟩ := tails_at k ls i hi
  have hl : i < (tailsN k ls i).length := by rw [tails_len]; exact hi
  rw [h2, h, ← h1, getElem!_pos _ i hl, List.set_getElem_self]
set_option maxRecDepth 100000 in
set_option maxHeartbeats 4000000 in
theorem refMerge_any (ao : Option Addr) (n c : Nat) (Q : List PV) (b : Bool) (w : World) (hn : Q.length = n) (hq : n ≤ 1000) (hp : ∀ p ∈ Q, PIn w p) (hc : 0 < n → ∃ bl off, ao = some ⟨bl, off, none⟩ ∧ ∀ i p, Q[i]? = some p → w.cell? ⟨bl, off + i, none⟩ = some p.v) (h0 : ao = none → c = 0) (ht : tot (Q.map PV.l) < 1000000) :
    Calls Try.prog 13 #[.slice ao n c, .bool b] w fun e w' => ∃ v, e = .returned v ∧ w'.ownsRow w.heap.size 29 4 v (mergeL (Q.map PV.l) b).length (flatE (mergeL (Q.map PV.l) b)) ∧ Below w.heap.size w w' := by
  obtain ⟨ls, HLS⟩ : ∃ x, Hid (Q.map PV.l = x) := ⟨_, rfl⟩
  have HTL : Hid (tot ls < 1000000) := by show _ < _; rw [← HLS.out]; exact ht
  have HPIN : Hid (∀ p ∈ Q, PIn (w.alloc (.cells #[] 25)) p) := fun p h => (hp p h).below (bel_alloc w _) (Nat.le_refl _)
  have HCELL : Hid (0 < n → ∃ bl off, ao = some ⟨bl, off, none⟩ ∧ ∀ i p, Q[i]? = some p → (w.alloc (.cells #[] 25)).cell? ⟨bl, off + i, none⟩ = some p.v) := fun h => by
    obtain ⟨bl, off, e, hh⟩ := hc h
    exact ⟨bl, off, e, fun i p hi => bel_cell (bel_alloc w _) (Nat.le_refl _) (hh i p hi)⟩
  have HQ : Hid (∀ p ∈ Q, PIn w p) := hp
  have HN : Hid (Q.length = n) := hn
  have H00 : Hid (ao = none → c = 0) := h0
  have HQ1 : Hid (n ≤ 1000) := hq
  rw [HLS.out]
  clear hp hc h0 ht hn
  go_enter Try.func13, Try.ntmps13
  go_wp2_with (at_builtin; refine wpList_append_parts _ rfl (.tmp 12) (.tmp 13) rfl w.heap.size _ 0 [] rfl (ownP_empty w).row rfl (by simp) ao n c Q rfl HN.out HPIN.out HCELL.out H00.out (by omega) ?_)
  intro v5 w1 hown1 hb1
  have hown : w1.ownsRow w.heap.size 25 1 v5 Q.length (Q.map PV.v) := by simpa using hown1
  have HT1 : Hid (MR w (w1.alloc (.cells #[] 29)) v5 Q (.slice (some ⟨w1.heap.size, 0, none⟩) 0 0) []) := by
    have hbb : Below w.heap.size w w1 := (bel_alloc w _).trans hb1
    refine ⟨OwnT.grow ⟨hown, HQ.out, hbb⟩ (bel_alloc w1 _), ownsRow_mono (own_emptyE w1) hbb.size, fun k hk ho => ?_⟩
    cases hk
    have : w1.heap.size < w1.heap.size := (hown.lt _ ho).2
    omega
  obtain ⟨po, pc, rfl, -⟩ := HT1.out.tails.lists (by rw [HN.out]; omega)
  rw [HN.out] at HT1 ⊢
  clear hown hown1 hb1 HCELL HPIN H00
  go_wp2_with fail
  go_loopg [6, 7, 8, 9, 10] (tot ls) (fun gk x6 _ _ _ _ wr => ∃ (Ps : List PV) (G : List E), Hid (MR w wr (.slice po n pc) Ps x6 G) ∧ Hid (Ps.length = n ∧ G ++ mergeL (Ps.map PV.l) b = mergeL ls b) ∧ tot (Ps.map PV.l) ≤ gk)
  case atStart => exact ⟨Q, [], HT1.out, ⟨HN.out, by rw [HLS.out]; rfl⟩, by rw [HLS.out]; exact Nat.le_refl _⟩
  case round =>
    obtain ⟨Ps, G, HM, HE, hgk⟩ := hrel
    have HLA : Hid (Calls Try.prog 22 #[.slice po n pc] wr fun e w' => e = .returned (.tuple #[.string (oK (leastE (Ps.map PV.l))), .bool (leastE (Ps.map PV.l)).isSome]) ∧ w' = wr) := by
      obtain ⟨po2, pc2, hv, R, hR1, hR2⟩ := HM.out.tails.lists (by rw [HE.out.1]; omega)
      rw [HE.out.1] at hv hR1
      cases hv
      have h := least_any po n pc R wr hR1 (by omega)
      rw [hR2] at h
      exact h
    obtain ⟨o, HO⟩ : ∃ x, Hid (leastE (Ps.map PV.l) = x) := ⟨_, rfl⟩
    rw [HO.out] at HLA
    go_wp2_with fail
    refine Calls.mono HLA.out ?_
    rintro e wx ⟨rfl, rfl⟩
    clear HLA
    cases o with
    | none =>
      have HD : Hid (mergeL ls b = G) := by
        show _ = _
        rw [← HE.out.2, mergeL_none b HO.out, List.append_nil]
      go_wp2_with fail
      go_ret
      exact ⟨_, rfl, by rw [HD.out]; exact HM.out.row, HM.out.tails.bel⟩
    | some e =>
      have HMX : Hid (mergeL (Ps.map PV.l) b = (if b && e.del then [] else [e]) ++ mergeL ((Ps.map PV.l).map (passK e.key)) b) := mergeL_some b HO.out
      obtain ⟨ek, ev, ed, eq⟩ := e
      obtain ⟨l0, HL0⟩ : ∃ x, Hid (Ps.map PV.l = x) := ⟨_, rfl⟩
      rw [HL0.out] at HMX HE hgk HO
      have HLN : Hid (l0.length = n) := by show _ = _; rw [← HL0.out, List.length_map]; exact HE.out.1
      obtain ⟨ad, HAD⟩ : ∃ x, Hid ((if b && ed then ([] : List E) else [⟨ek, ev, ed, eq⟩]) = x) := ⟨_, rfl⟩
      have HMX2 : Hid (mergeL l0 b = ad ++ mergeL (l0.map (passK ek)) b) := by rw [← HAD.out]; exact HMX.out
      clear HMX
      go_wp2_with fail
      rw [show oK (some (⟨ek, ev, ed, eq⟩ : E)) = ek from rfl]
      go_loopw [6, 9, 10] (fun x6 x9 x10 wr2 => ∃ (i : Nat) (P2 : List PV) (t : Bool) (G2 : List E), x10 = .int .i64 i ∧ i ≤ n ∧ x9 = .bool t ∧ Hid (MR w wr2 (.slice po n pc) P2 x6 G2) ∧ Hid (P2.length = n ∧ P2.map PV.l = tailsN ek l0 i ∧ takenN ek l0 i = t ∧ G2 = G ++ (if t then ad else []))) (fun _ _ x10 _ => n - (intOf x10).toNat)
      case atStart => exact ⟨0, Ps, false, G, rfl, Nat.zero_le _, rfl, HM.out, HE.out.1, by rw [tails_zero]; exact HL0.out, rfl, by simp⟩
      case round =>
        obtain ⟨i, P2, t, G2, rfl, hin, rfl, HM2, HI⟩ := hrel
        by_cases hlt : i < n
        · have hltz : (i : Int) < (n : Int) := by omega
          obtain ⟨g, p, pao, pcc, rfl, hgb, hpi, hpv, hcell, hfz, hents, hpin, hpc1, hpc2⟩ := HM2.out.at_ HI.out.1 i hlt
          obtain ⟨ht1, ht2⟩ := tails_at ek l0 i (by rw [HLN.out]; exact hlt)
          have hli : p.l = l0[i]! := by
            rw [← ht1, ← HI.out.2.1, getElem!_pos _ i (by rw [List.length_map, HI.out.1]; exact hlt), List.getElem_map]
            have := List.getElem?_eq_some_iff.1 hpi
            rw [this.2]
          have HLI : Hid (p.l = l0[i]!) := hli
          have HTS : Hid (tailsN ek l0 (i + 1) = (tailsN ek l0 i).set i (passK ek l0[i]!)) := ht2
          have HTK : Hid (takenN ek l0 (i + 1) = (takenN ek l0 i || headK ek l0[i]!)) := taken_succ ek l0 i (by rw [HLN.out]; exact hlt)
          clear ht1 ht2 hli
          cases hl : p.l with
          | nil =>
            have HSAME : Hid (tailsN ek l0 (i + 1) = tailsN ek l0 i ∧ takenN ek l0 (i + 1) = t) := by
              have h1 := HLI.out
              rw [hl] at h1
              refine ⟨?_, ?_⟩
              · exact tails_same ek l0 i (by rw [HLN.out]; exact hlt) (by rw [← h1]; rfl)
              · rw [HTK.out, ← h1, HI.out.2.2.1]; simp [headK]
            rw [hl] at hcell
            clear hents hpin hpc1 hpc2 hpv hl hpi
            go_wp2_with fail
            go_roundw
            case rel => exact ⟨i + 1, P2, t, G2, by go_num, by omega, rfl, HM2.out, HI.out.1, by rw [HSAME.out.1]; exact HI.out.2.1, HSAME.out.2, HI.out.2.2.2⟩
            case measure => simp [intOf]; omega
          | cons y tl =>
            obtain ⟨yk, yv, yd, yq⟩ := y
            rw [hl] at hents hcell hpc1
            obtain ⟨ab, aoff, rfl, hEn⟩ := hents.2 (by simp)
            obtain ⟨y0, y1, y2, y3⟩ := ents_four hEn 0 (by simp) (k := yk) (v := yv) (d := yd) (q := yq) rfl
            simp only [Nat.zero_mul, Nat.add_zero] at y0 y1 y2 y3
            have HL1 : Hid (l0[i]! = ⟨yk, yv, yd, yq⟩ :: tl) := by show _ = _; rw [← HLI.out]; exact hl
            obtain ⟨m, HM0⟩ : ∃ m, Hid ((⟨yk, yv, yd, yq⟩ :: tl : List E).length = m) := ⟨_, rfl⟩
            rw [HM0.out] at hcell hpc1
            have hm0 : 0 < m := by have := HM0.out; simp at this; omega
            have hm0z : ¬ (m : Int) = 0 := by omega
            have hmz : (0 : Int) < (m : Int) := by omega
            by_cases hky : yk = ek
            · subst hky
              have hkz : (yk.toList == yk.toList) = true := by rw [eq_cmpS]; exact decide_eq_true rfl
              have HPASS : Hid (tailsN yk l0 (i + 1) = (tailsN yk l0 i).set i tl ∧ takenN yk l0 (i + 1) = true) := by
                refine ⟨by rw [HTS.out, HL1.out, pass_head (k := yk) (e := ⟨yk, yv, yd, yq⟩) (t := tl) rfl], ?_⟩
                rw [HTK.out, HL1.out]; simp [headK]
              obtain ⟨q, hqv, hql, hqp⟩ : ∃ q : PV, q.v = .slice (if pcc = 1 then some ⟨ab, aoff, none⟩ else some ⟨ab, aoff + 4, none⟩) (m - 1) (pcc - 1) ∧ q.l = tl ∧ PIn w q := by
                refine ⟨⟨.slice (if pcc = 1 then some ⟨ab, aoff, none⟩ else some ⟨ab, aoff + 4, none⟩) (m - 1) (pcc - 1), tl⟩, rfl, rfl, ?_⟩
                obtain ⟨ao', c', h1, h2, h3, h4, h5⟩ := hpin
                rw [hpv] at h1
                cases h1
                rw [hl, HM0.out] at h2
                have h6 := h2.from (c := pcc) 1 (by omega) hpc1
                have hml : tl.length = m - 1 := by have := HM0.out; simp at this; omega
                refine ⟨if pcc = 1 then some ⟨ab, aoff, none⟩ else some ⟨ab, aoff + 4, none⟩, pcc - 1, by show Value.slice _ _ _ = Value.slice _ tl.length _; rw [hml], ?_, by show tl.length ≤ _; omega, by omega, fun h => ?_⟩
                · show EntsV w _ tl.length tl
                  rw [hml]
                  have h7 := h6
                  rw [Option.map_some, Addr.add_lit] at h7
                  exact h7
                · split at h <;> cases h
              cases t with
              | true =>
                have HST : Hid (MR w (wr.setCell ⟨g, i, none⟩ q.v) (.slice (some ⟨g, 0, none⟩) n pc) (P2.set i q) u6 G2) := HM2.out.store HI.out.1 hgb i hqp
                rw [hqv] at HST
                have HN2 : Hid ((P2.set i q).length = n ∧ (P2.set i q).map PV.l = tailsN yk l0 (i + 1) ∧ G2 = G ++ ad) := ⟨by rw [List.length_set]; exact HI.out.1, by rw [List.map_set, HI.out.2.1, hql, HPASS.out.1], by rw [HI.out.2.2.2]; simp⟩
                clear hEn hents hpin hpv hl hpi hqv hql hqp
                go_wp2_with fail
                go_roundw
                case rel => exact ⟨i + 1, P2.set i q, true, G2, by go_num, by omega, rfl, HST.out, HN2.out.1, HN2.out.2.1, HPASS.out.2, by rw [HN2.out.2.2]; simp⟩
                case measure => simp [intOf]; omega
              | false =>
                have heq : (⟨yk, yv, yd, yq⟩ : E) = ⟨yk, ev, ed, eq⟩ := by
                  have h1 := first_head HO.out (by rw [HLN.out]; exact hlt) (by rw [HL1.out]; simp [headK]) HI.out.2.2.1
                  rw [HL1.out] at h1
                  exact h1
                simp only [E.mk.injEq] at heq
                obtain ⟨-, rfl, rfl, rfl⟩ := heq
                have HGL : Hid (G2.length < 1000000) := by
                  have h1 := mergeL_len _ ls b (Nat.le_refl _)
                  rw [← HE.out.2, List.length_append] at h1
                  have h2 := HTL.out
                  show _ < _
                  rw [HI.out.2.2.2]
                  simp
                  omega
                have hpi2 : Hid (P2[i]? = some p) := hpi
                have hpv2 : Hid (p.v = .slice (some ⟨ab, aoff, none⟩) p.l.length pcc) := hpv
                have hl2 : Hid (p.l = ⟨yk, yv, yd, yq⟩ :: tl) := hl
                cases b with
                | true =>
                  cases yd with
                  | true =>
                    have HAE : Hid (ad = []) := HAD.out.symm
                    have HST : Hid (MR w (wr.setCell ⟨g, i, none⟩ q.v) (.slice (some ⟨g, 0, none⟩) n pc) (P2.set i q) u6 G2) := HM2.out.store HI.out.1 hgb i hqp
                    rw [hqv] at HST
                    have HN2 : Hid ((P2.set i q).length = n ∧ (P2.set i q).map PV.l = tailsN yk l0 (i + 1) ∧ G2 = G ++ ad) := ⟨by rw [List.length_set]; exact HI.out.1, by rw [List.map_set, HI.out.2.1, hql, HPASS.out.1], by rw [HI.out.2.2.2, HAE.out]; simp⟩
                    clear hEn hents hpin hpv hl hpi hqv hql hqp
                    go_wp2_with fail
                    go_roundw
                    case rel => exact ⟨i + 1, P2.set i q, true, G2, by go_num, by omega, rfl, HST.out, HN2.out.1, HN2.out.2.1, HPASS.out.2, by rw [HN2.out.2.2]; simp⟩
                    case measure => simp [intOf]; omega
                  | false =>
                    have HAE : Hid (ad = [⟨yk, yv, false, yq⟩]) := HAD.out.symm
                    have HMA : Hid (MR w (wr.alloc (.cells #[.string yk, .string yv, .bool false, .int .i64 yq] 29)) (.slice (some ⟨g, 0, none⟩) n pc) P2 u6 G2) := HM2.out.grow (bel_alloc _ _)
                    have HROW : Hid ((wr.alloc (.cells #[.string yk, .string yv, .bool false, .int .i64 yq] 29)).ownsRow w.heap.size 29 4 u6 G2.length (flatE G2)) := HMA.out.row
                    have HSZ : Hid (G2.length < 1000000 ∧ w.heap.size ≤ (wr.alloc (.cells #[.string yk, .string yv, .bool false, .int .i64 yq] 29)).heap.size) := ⟨HGL.out, by have := HM2.out.tails.bel.size; simp; omega⟩
                    obtain ⟨i0, hi, hz0, hz1, hz2⟩ := info_parts info23
                    clear hEn hents hpin hpv hl hpi
                    have hqv2 := hqv
                    clear hqv
                    go_wp2_with (at_builtin; refine wpList_append_lies _ rfl (.tmp 62) (.tmp 69) 25 rfl w.heap.size 29 i0 _ 4 48 Try.underlying25 hi hz0 hz1 hz2 rfl (by decide) u6 G2.length (flatE G2) rfl HROW.out ⟨wr.heap.size, 0, none⟩ 1 1 (encE ⟨yk, yv, false, yq⟩) rfl rfl (World.news_of_block (cs := (encE ⟨yk, yv, false, yq⟩).toArray) (t := 29) (fr := (0, 0)) (by rw [heap_alloc_get, if_pos rfl]; rfl)) (encE_one _) (by decide) (by have := HSZ.out.1; unfold maxLen; omega) (by have := HSZ.out.1; omega) HSZ.out.2 _ rfl ?_)
                    intro g7 cap7 w7 hr7 hg7 hl7 hlt7
                    have HM7 : Hid (MR w w7 (.slice (some ⟨g, 0, none⟩) n pc) P2 (.slice (some ⟨g7, 0, none⟩) (G2.length + 1) cap7) (G2 ++ [⟨yk, yv, false, yq⟩])) := HMA.out.more hr7 hg7 (by simpa using hl7)
                    obtain ⟨g8, p8, ao8, c8, he8, -, hp8, hv8, hcell8, hfz8, -⟩ := HM7.out.at_ HI.out.1 i hlt
                    obtain rfl : g = g8 := by cases he8; rfl
                    obtain rfl : p = p8 := Option.some.inj (hpi2.out.symm.trans hp8)
                    rw [hpv2.out] at hv8
                    cases hv8
                    rw [hl2.out, HM0.out] at hcell8
                    clear hr7 hg7 hl7 hlt7 HROW hcell hfz he8 hp8
                    have HST : Hid (MR w (w7.setCell ⟨g, i, none⟩ q.v) (.slice (some ⟨g, 0, none⟩) n pc) (P2.set i q) (.slice (some ⟨g7, 0, none⟩) (G2.length + 1) cap7) (G2 ++ [⟨yk, yv, false, yq⟩])) := HM7.out.store HI.out.1 hgb i hqp
                    rw [hqv2] at HST
                    have HN2 : Hid ((P2.set i q).length = n ∧ (P2.set i q).map PV.l = tailsN yk l0 (i + 1) ∧ G2 ++ [⟨yk, yv, false, yq⟩] = G ++ ad) := ⟨by rw [List.length_set]; exact HI.out.1, by rw [List.map_set, HI.out.2.1, hql, HPASS.out.1], by rw [HI.out.2.2.2, HAE.out]; simp⟩
                    clear hqv2 hql hqp
                    go_wp2_with fail
                    go_roundw
                    case rel => exact ⟨i + 1, P2.set i q, true, G2 ++ [(⟨yk, yv, false, yq⟩ : E)], by go_num, by omega, rfl, HST.out, HN2.out.1, HN2.out.2.1, HPASS.out.2, by rw [HN2.out.2.2]; simp⟩
                    case measure => simp [intOf]; omega
                | false =>
                  have HAE : Hid (ad = [⟨yk, yv, yd, yq⟩]) := HAD.out.symm
                  have HMA : Hid (MR w (wr.alloc (.cells #[.string yk, .string yv, .bool yd, .int .i64 yq] 29)) (.slice (some ⟨g, 0, none⟩) n pc) P2 u6 G2) := HM2.out.grow (bel_alloc _ _)
                  have HROW : Hid ((wr.alloc (.cells #[.string yk, .string yv, .bool yd, .int .i64 yq] 29)).ownsRow w.heap.size 29 4 u6 G2.length (flatE G2)) := HMA.out.row
                  have HSZ : Hid (G2.length < 1000000 ∧ w.heap.size ≤ (wr.alloc (.cells #[.string yk, .string yv, .bool yd, .int .i64 yq] 29)).heap.size) := ⟨HGL.out, by have := HM2.out.tails.bel.size; simp; omega⟩
                  obtain ⟨i0, hi, hz0, hz1, hz2⟩ := info_parts info23
                  clear hEn hents hpin hpv hl hpi
                  have hqv2 := hqv
                  clear hqv
                  go_wp2_with (at_builtin; refine wpList_append_lies _ rfl (.tmp 62) (.tmp 69) 25 rfl w.heap.size 29 i0 _ 4 48 Try.underlying25 hi hz0 hz1 hz2 rfl (by decide) u6 G2.length (flatE G2) rfl HROW.out ⟨wr.heap.size, 0, none⟩ 1 1 (encE ⟨yk, yv, yd, yq⟩) rfl rfl (World.news_of_block (cs := (encE ⟨yk, yv, yd, yq⟩).toArray) (t := 29) (fr := (0, 0)) (by rw [heap_alloc_get, if_pos rfl]; rfl)) (encE_one _) (by decide) (by have := HSZ.out.1; unfold maxLen; omega) (by have := HSZ.out.1; omega) HSZ.out.2 _ rfl ?_)
                  intro g7 cap7 w7 hr7 hg7 hl7 hlt7
                  have HM7 : Hid (MR w w7 (.slice (some ⟨g, 0, none⟩) n pc) P2 (.slice (some ⟨g7, 0, none⟩) (G2.length + 1) cap7) (G2 ++ [⟨yk, yv, yd, yq⟩])) := HMA.out.more hr7 hg7 (by simpa using hl7)
                  obtain ⟨g8, p8, ao8, c8, he8, -, hp8, hv8, hcell8, hfz8, -⟩ := HM7.out.at_ HI.out.1 i hlt
                  obtain rfl : g = g8 := by cases he8; rfl
                  obtain rfl : p = p8 := Option.some.inj (hpi2.out.symm.trans hp8)
                  rw [hpv2.out] at hv8
                  cases hv8
                  rw [hl2.out, HM0.out] at hcell8
                  clear hr7 hg7 hl7 hlt7 HROW hcell hfz he8 hp8
                  have HST : Hid (MR w (w7.setCell ⟨g, i, none⟩ q.v) (.slice (some ⟨g, 0, none⟩) n pc) (P2.set i q) (.slice (some ⟨g7, 0, none⟩) (G2.length + 1) cap7) (G2 ++ [⟨yk, yv, yd, yq⟩])) := HM7.out.store HI.out.1 hgb i hqp
                  rw [hqv2] at HST
                  have HN2 : Hid ((P2.set i q).length = n ∧ (P2.set i q).map PV.l = tailsN yk l0 (i + 1) ∧ G2 ++ [⟨yk, yv, yd, yq⟩] = G ++ ad) := ⟨by rw [List.length_set]; exact HI.out.1, by rw [List.map_set, HI.out.2.1, hql, HPASS.out.1], by rw [HI.out.2.2.2, HAE.out]; simp⟩
                  clear hqv2 hql hqp
                  go_wp2_with fail
                  go_roundw
                  case rel => exact ⟨i + 1, P2.set i q, true, G2 ++ [(⟨yk, yv, yd, yq⟩ : E)], by go_num, by omega, rfl, HST.out, HN2.out.1, HN2.out.2.1, HPASS.out.2, by rw [HN2.out.2.2]; simp⟩
                  case measure => simp [intOf]; omega
            · have hkz : (yk.toList == ek.toList) = false := by rw [eq_cmpS]; exact decide_eq_false hky
              have hnh : headK ek l0[i]! = false := by rw [HL1.out]; exact decide_eq_false hky
              have HSAME : Hid (tailsN ek l0 (i + 1) = tailsN ek l0 i ∧ takenN ek l0 (i + 1) = t) := by
                refine ⟨tails_same ek l0 i (by rw [HLN.out]; exact hlt) (pass_not hnh), ?_⟩
                rw [HTK.out, hnh, HI.out.2.2.1]; simp
              clear hEn hents hpin hpv hl hpi hnh
              go_wp2_with fail
              go_roundw
              case rel => exact ⟨i + 1, P2, t, G2, by go_num, by omega, rfl, HM2.out, HI.out.1, by rw [HSAME.out.1]; exact HI.out.2.1, HSAME.out.2, HI.out.2.2.2⟩
              case measure => simp [intOf]; omega
        · have hltz : ¬ (i : Int) < (n : Int) := by omega
          have hi2 : i = n := by omega
          have HF : Hid (P2.map PV.l = l0.map (passK ek) ∧ G2 = G ++ ad) := by
            obtain ⟨h1, h2, h3, h4⟩ := HI.out
            rw [hi2, ← HLN.out, tails_all] at h2
            rw [hi2, ← HLN.out, taken_all HO.out] at h3
            exact ⟨h2, by rw [h4, ← h3]; simp⟩
          have HP2 : Hid (P2.length = n) := HI.out.1
          have HTT : Hid (tot (l0.map (passK ek)) < tot l0) := leastE_tot HO.out
          clear hi2 hlt
          go_wp2_with fail
          go_roundg (tot (l0.map (passK ek)))
          case measure => exact Nat.lt_of_lt_of_le HTT.out hgk
          case rel => exact ⟨P2, G2, HM2.out, ⟨HP2.out, by rw [HF.out.1, HF.out.2, List.append_assoc, ← HMX2.out]; exact HE.out.2⟩, by rw [HF.out.1]; exact Nat.le_refl _⟩
end Go.Proofs.Yteggjenncmjfmaa
