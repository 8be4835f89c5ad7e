/-
  A list alone is itself: what the law MergeOne answers, for any arguments.
-/
import Derived.Test.YteggjenncmjfmaaMgT
namespace Go.Proofs.Yteggjenncmjfmaa
open Go.RowKit
set_option linter.unusedSectionVars false
set_option linter.unusedVariables false
variable [Inhabited E] [DecidableEq E] [Inhabited RV]
/-- Elder ones of some of A's keys. -/
def Eld (A L : List E) (i : Nat) : Prop := Ks L ∧ (∀ e ∈ L, ∃ x ∈ A.take i, x.key = e.key) ∧ L.length ≤ i
theorem Eld.skip {A L : List E} {i : Nat} (h : Eld A L i) : Eld A L (i + 1) := ⟨h.1, fun e he => by
  obtain ⟨x, hx, hk⟩ := h.2.1 e he
  exact ⟨x, List.mem_of_mem_take (by rw [List.take_take, Nat.min_eq_left (Nat.le_succ i)]; exact hx), hk⟩, Nat.le_succ_of_le h.2.2⟩
theorem Eld.more {A L : List E} {i : Nat} (h : Eld A L i) (hA : Ks A) (hi : i < A.length) {k v : ByteArray} {d : Bool} {q : Int} (hk : A[i]!.key = k) : Eld A (L ++ [⟨k, v, d, q⟩]) (i + 1) := by
  rw [getElem!_pos A i hi] at hk
  refine ⟨List.pairwise_append.2 ⟨h.1, List.pairwise_singleton _ _, fun a ha b hb => ?_⟩, fun e he => ?_, by rw [List.length_append, List.length_singleton]; have := h.2.2; omega⟩
  · rw [List.mem_singleton.1 hb]
    obtain ⟨x, hx, hxk⟩ := h.2.1 a ha
    obtain ⟨j, hj, rfl⟩ := List.getElem_of_mem hx
    rw [List.length_take] at hj
    rw [List.getElem_take] at hxk
    have := (List.pairwise_iff_getElem.1 hA) j i (by omega) hi (by omega)
    rw [hxk, hk] at this
    exact this
  · rcases List.mem_append.1 he with he | he
    · exact h.skip.2.1 e he
    · rw [List.mem_singleton.1 he]
      exact ⟨A[i], by rw [List.take_succ_eq_append_getElem hi]; exact List.mem_append_right _ (List.mem_singleton.2 rfl), hk⟩
theorem filt_take {A : List E} {i : Nat} (hi : i < A.length) {k v : ByteArray} {d : Bool} {q : Int} (h : A[i]! = ⟨k, v, d, q⟩) : filt (A.take (i + 1)) = filt (A.take i) ++ (if d then [] else [⟨k, v, d, q⟩]) := filt_snoc A i hi _ h
/-- Merge of a row of slices that the call has just made. -/
theorem merge_built (Q : List PV) (n : Nat) (hn : Q.length = n) (h0 : 0 < n) (hq : n ≤ 1000) (w : World) (hp : ∀ p ∈ Q, PIn w p) (vs : Array Value) (hv : vs.toList = Q.map PV.v) (b : Bool) (L : List E) (hL : mergeL (Q.map PV.l) b = L) (ht : tot (Q.map PV.l) < 1000000) :
    Calls Try.prog 11 #[.slice (some ⟨w.heap.size, 0, none⟩) n n, .bool b] (w.alloc (.cells vs 25)) fun e w' => ∃ o c, e = .returned (.slice o L.length c) ∧ EntsV w' o L.length L ∧ Below w.heap.size w w' := by
  subst hn
  obtain ⟨R, q1, q2, -⟩ := lists_built (w := w) h0 (by omega) hp vs hv
  refine (merge_any _ Q.length Q.length R b _ q1 (by omega) (by rw [q2]; exact ht)).mono ?_
  rintro e w' ⟨v, rfl, ho, hb⟩
  rw [q2, hL] at ho
  obtain ⟨o, c, rfl, he, -⟩ := ent_slice ho rfl
  exact ⟨o, c, rfl, he, (bel_alloc w _).trans (hb.mono (by simp))⟩
set_option maxRecDepth 100000 in
set_option maxHeartbeats 1000000 in
theorem oneM_walk (q : PV) (ko : Option Addr) (kn kc kb koff : Nat) (ts : List Bool) (b : Bool) (w : World) (hq : PIn w q) (hts : BoolsAt w kb koff ts) (hkl : ts.length = kn) (hka : 0 < kn → ko = some ⟨kb, koff, none⟩) (hkn : kn ≤ kc) (hkc : kc ≤ 9223372036854775807) :
    Calls Try.prog 7 #[q.v, .slice ko kn kc, .bool b] w fun e w' => e = .returned (.bool true) ∧ Below w.heap.size w w' := by
  have HQ : Hid (∀ W, Below w.heap.size w W → PIn W q) := fun W hW => hq.below hW (Nat.le_refl _)
  have HK : Hid (BoolsAt w kb koff ts ∧ ts.length = kn ∧ (0 < kn → ko = some ⟨kb, koff, none⟩) ∧ kn ≤ kc ∧ kc ≤ 9223372036854775807) := ⟨hts, hkl, hka, hkn, hkc⟩
  obtain ⟨qo, qc, hqv, -⟩ := hq
  obtain ⟨qv, ql⟩ := q
  simp only at hqv
  subst hqv
  clear hts hkl hka hkn hkc
  go_enter Try.func7, Try.ntmps7
  go_wp2_with fail
  refine (shown_any w).mono ?_
  rintro e w1 ⟨rfl, hb1⟩
  have HB1 : Hid (Below w.heap.size w w1) := hb1
  have HRI : Hid (Calls Try.prog 14 #[.slice (some ⟨w1.heap.size, 0, none⟩) 1 1] (w1.alloc (.cells #[.slice qo ql.length qc] 25)) fun e w' => ∃ v Ps, e = .returned v ∧ Ps.map PV.l = [foldS (ql.take 60)] ∧ OwnP w' (w1.alloc (.cells #[.slice qo ql.length qc] 25)).heap.size v Ps ∧ Below (w1.alloc (.cells #[.slice qo ql.length qc] 25)).heap.size (w1.alloc (.cells #[.slice qo ql.length qc] 25)) w') := by
    obtain ⟨R, q1, q2, q3⟩ := lists_built (w := w1) (Q := [⟨.slice qo ql.length qc, ql⟩]) (by simp) (by simp) (fun p hp => by rw [List.mem_singleton.1 hp]; exact HQ.out w1 hb1) #[.slice qo ql.length qc] rfl
    have := rising_any _ 1 1 R _ q1 (by decide) q3
    rw [q2] at this
    exact this
  clear hb1
  go_wp2_with fail
  refine Calls.mono HRI.out ?_
  rintro e w2 ⟨v, Ps, rfl, hl, ho, hb⟩
  have hlen : Ps.length = 1 := by have := congrArg List.length hl; rw [List.length_map] at this; exact this
  obtain ⟨gb, gc, po, pc, p, hv, hgc, c0, -, hp, hpv, hpe, hpn, hpm⟩ := ho.at_ 0 (by omega)
  obtain ⟨A, HA⟩ : ∃ x, Hid (foldS (ql.take 60) = x) := ⟨_, rfl⟩
  have hpl : p.l = A := by
    have := congrArg (fun x => x[0]?) hl
    simp only [List.getElem?_map, hp, Option.map_some, HA.out] at this
    exact Option.some.inj this
  have HAA : Hid (Ks A ∧ A.length ≤ 60) := by
    rw [← HA.out]
    refine ⟨ks_foldS _, ?_⟩
    have := foldS_len (ql.take 60)
    rw [List.length_take] at this; omega
  rw [hpl] at c0 hpe hpn
  obtain ⟨m, HM⟩ : ∃ m, Hid (A.length = m) := ⟨_, rfl⟩
  rw [HM.out] at c0 hpe hpn
  rw [hlen] at hv hgc
  subst hv
  have HB2 : Hid (Below w.heap.size w w2) := HB1.out.trans (((bel_alloc w1 _).trans (hb.mono (by simp))).mono HB1.out.size)
  have HE : Hid (∀ W, Below w2.heap.size w2 W → EntsV W po m A) := fun W hW => hpe.below hW (Nat.le_refl _)
  have HPC : Hid (m ≤ pc ∧ pc ≤ 9223372036854775807 ∧ m ≤ 60) := ⟨hpn, hpm, by have := HAA.out.2; have := HM.out; omega⟩
  have HPI : Hid (∀ W, Below w2.heap.size w2 W → PIn W ⟨.slice po m pc, A⟩) := fun W hW => by
    have h1 := ho.pin p (List.mem_of_getElem? hp)
    obtain ⟨pv, pl⟩ := p
    simp only at hpl hpv
    subst hpl
    rw [HM.out] at hpv
    subst hpv
    exact h1.below hW (Nat.le_refl _)
  clear hl ho hb hlen hgc hp hpv hpe hpn hpm hpl HRI
  have hm60 : (m : Int) ≤ 60 := by have := HPC.out; omega
  go_wp2_with fail
  go_loopw [9, 10] (fun s9 s10 wr => ∃ (i : Nat) (L : List E), s10 = .int .i64 i ∧ i ≤ m ∧ Hid (Eld A L i ∧ wr.ownsRow w2.heap.size 29 4 s9 L.length (flatE L) ∧ Below w2.heap.size w2 wr)) (fun _ s10 _ => m - (intOf s10).toNat)
  case atStart => exact ⟨0, [], rfl, Nat.zero_le _, ⟨List.Pairwise.nil, fun e he => (by cases he), Nat.le_refl _⟩, World.ownsRow_nil _ _ _ _, Below.refl _ _⟩
  case round =>
    obtain ⟨i, L, rfl, him, HL⟩ := hrel
    by_cases hlt : i < m
    · have hltz : (i : Int) < (m : Int) := by omega
      obtain ⟨ab, aoff, hpo, hEn⟩ := (HE.out wr HL.out.2.2).2 (by omega)
      obtain ⟨ek, ev, ed, eq, HX⟩ : ∃ k0 v0 d0 q0, Hid (A[i]! = E.mk k0 v0 d0 q0) := ⟨_, _, _, _, rfl⟩
      obtain ⟨x0, x1, x2, x3⟩ := ents_four hEn i (by rw [HM.out]; exact hlt) HX.out
      have HKE : Hid (A[i]!.key = ek) := by show _ = _; rw [HX.out]
      have HIA : Hid (i < A.length) := by show _ < _; rw [HM.out]; exact hlt
      subst hpo
      clear x1 x2 x3 hEn
      by_cases hk1 : i < kn
      · have hikz : (i : Int) < (kn : Int) := by omega
        have hka := HK.out.2.2.1 (by omega)
        subst hka
        have hkt : ts[i]? = some ts[i]! := by rw [getElem!_pos ts i (by have := HK.out.2.1; omega), List.getElem?_eq_getElem]
        have c1 := bel_cell (HB2.out.trans (HL.out.2.2.mono HB2.out.size)) (Nat.le_refl _) (HK.out.1 i _ hkt)
        cases hb : ts[i]! with
        | true =>
          rw [hb] at c1
          have HROW : Hid ((wr.alloc (.cells #[.string ek, .string ⟨#[101, 108, 100, 101, 114]⟩, .bool false, .int .i64 1] 29)).ownsRow w2.heap.size 29 4 u9 L.length (flatE L)) := own_below HL.out.2.1 (bel_alloc _ _) (Nat.le_refl _)
          have HSZ : Hid (L.length ≤ 60 ∧ w2.heap.size ≤ (wr.alloc (.cells #[.string ek, .string ⟨#[101, 108, 100, 101, 114]⟩, .bool false, .int .i64 1] 29)).heap.size) := ⟨by have := HL.out.1.2.2; have := HPC.out; omega, by have := HL.out.2.2.size; simp; omega⟩
          obtain ⟨i0, hi, hz0, hz1, hz2⟩ := info_parts info23
          clear hkt hb hk1
          go_wp2_with (at_builtin; refine wpList_append_lies _ rfl (.tmp 38) (.tmp 45) 25 rfl w2.heap.size 29 i0 _ 4 48 Try.underlying25 hi hz0 hz1 hz2 rfl (by decide) u9 L.length (flatE L) rfl HROW.out ⟨wr.heap.size, 0, none⟩ 1 1 (encE ⟨ek, ⟨#[101, 108, 100, 101, 114]⟩, false, 1⟩) rfl rfl (World.news_of_block (cs := (encE ⟨ek, ⟨#[101, 108, 100, 101, 114]⟩, false, 1⟩).toArray) (t := 29) (fr := (0, 0)) (by rw [heap_alloc_get, if_pos rfl]; rfl)) (encE_one _) (by decide) (by have := HSZ.out.1; unfold maxLen; omega) (by have := HSZ.out.1; omega) HSZ.out.2 _ rfl ?_)
          intro g7 cap7 w7 hr7 hg7 hl7 hlt7
          have HL7 : Hid (Eld A (L ++ [⟨ek, ⟨#[101, 108, 100, 101, 114]⟩, false, 1⟩]) (i + 1) ∧ w7.ownsRow w2.heap.size 29 4 (.slice (some ⟨g7, 0, none⟩) (L.length + 1) cap7) (L ++ [(⟨ek, ⟨#[101, 108, 100, 101, 114]⟩, false, 1⟩ : E)]).length (flatE (L ++ [⟨ek, ⟨#[101, 108, 100, 101, 114]⟩, false, 1⟩])) ∧ Below w2.heap.size w2 w7) := by
            refine ⟨HL.out.1.more HAA.out.1 HIA.out HKE.out, ?_, ((HL.out.2.2.alloc HL.out.2.2.size _)).trans ((Below.refl _ _).grown hg7 HSZ.out.2 (fun k hk => (HROW.out.lt k hk).1))⟩
            rw [List.length_append, List.length_singleton, flatE_append]
            have : flatE [(⟨ek, ⟨#[101, 108, 100, 101, 114]⟩, false, 1⟩ : E)] = encE ⟨ek, ⟨#[101, 108, 100, 101, 114]⟩, false, 1⟩ := by simp [flatE]
            rw [this]; exact hr7
          clear hr7 hg7 hl7 hlt7 HROW
          go_wp2_with fail
          go_roundw
          case rel => exact ⟨i + 1, _, by go_num, by omega, HL7.out⟩
          case measure => simp [intOf]; omega
        | false =>
          rw [hb] at c1
          clear hkt hb hk1
          go_wp2_with fail
          go_roundw
          case rel => exact ⟨i + 1, L, by go_num, by omega, HL.out.1.skip, HL.out.2⟩
          case measure => simp [intOf]; omega
      · have hikz : ¬ (i : Int) < (kn : Int) := by omega
        clear hk1
        go_wp2_with fail
        go_roundw
        case rel => exact ⟨i + 1, L, by go_num, by omega, HL.out.1.skip, HL.out.2⟩
        case measure => simp [intOf]; omega
    · have hltz : ¬ (i : Int) < (m : Int) := by omega
      have him2 : i = m := by omega
      have HLM : Hid (Ks L ∧ (∀ e ∈ L, ∃ x ∈ A, x.key = e.key) ∧ L.length ≤ 60) := by
        have h1 := HL.out.1
        refine ⟨h1.1, fun e he => ?_, by have := h1.2.2; have := HPC.out; omega⟩
        obtain ⟨x, hx, hxk⟩ := h1.2.1 e he
        exact ⟨x, List.mem_of_mem_take hx, hxk⟩
      clear him2 hlt
      obtain ⟨WA, HWA⟩ : ∃ x, Hid (wantB b A = x) := ⟨_, rfl⟩
      have HWL : Hid (WA.length ≤ 60) := by
        show _ ≤ _
        rw [← HWA.out]
        have := HAA.out.2
        cases b with
        | false => exact this
        | true => exact Nat.le_trans (filt_len A) this
      obtain ⟨lo, lc, hu9, -⟩ := ent_slice HL.out.2.1 rfl
      subst hu9
      go_upto_if 48 with fail
      go_cut [11] (fun s wx => ∃ wo wc, s = .slice wo WA.length wc ∧ Hid (EntsV wx wo WA.length WA ∧ Below wr.heap.size wr wx))
      case first =>
        cases b with
        | false =>
          have hw : WA = A := HWA.out.symm
          subst hw
          have HWE : Hid (EntsV wr po WA.length WA) := by show EntsV _ _ _ _; rw [HM.out]; exact HE.out wr HL.out.2.2
          go_wp2_with fail
          go_meet
          case rel => exact ⟨po, pc, by rw [HM.out], HWE.out, Below.refl _ _⟩
        | true =>
          have HWF : Hid (filt A = WA) := HWA.out
          go_wp2_with fail
          go_loopw [11, 12] (fun s11 s12 wq => ∃ (j : Nat), s12 = .int .i64 j ∧ j ≤ m ∧ Hid (wq.ownsRow wr.heap.size 29 4 s11 (filt (A.take j)).length (flatE (filt (A.take j))) ∧ Below wr.heap.size wr wq)) (fun _ s12 _ => m - (intOf s12).toNat)
          case atStart => exact ⟨0, rfl, Nat.zero_le _, World.ownsRow_nil _ _ _ _, Below.refl _ _⟩
          case round =>
            rename World => wq
            obtain ⟨j, rfl, hjm, HJ⟩ := hrel
            by_cases hlt : j < m
            · have hjz : (j : Int) < (m : Int) := by omega
              obtain ⟨ab, aoff, hpo, hEn⟩ := (HE.out wq (HL.out.2.2.trans (HJ.out.2.mono HL.out.2.2.size))).2 (by omega)
              obtain ⟨ek, ev, ed, eq, HX⟩ : ∃ k0 v0 d0 q0, Hid (A[j]! = E.mk k0 v0 d0 q0) := ⟨_, _, _, _, rfl⟩
              obtain ⟨x0, x1, x2, x3⟩ := ents_four hEn j (by rw [HM.out]; exact hlt) HX.out
              have HFT := filt_take (i := j) (by rw [HM.out]; exact hlt) HX.out
              subst hpo
              clear hEn
              cases ed with
              | true =>
                have HF : Hid (filt (A.take (j + 1)) = filt (A.take j)) := by show _ = _; rw [HFT]; exact List.append_nil _
                clear HFT
                go_wp2_with fail
                go_roundw
                case rel => exact ⟨j + 1, by go_num, by omega, by rw [HF.out]; exact HJ.out⟩
                case measure => simp [intOf]; omega
              | false =>
                have HF : Hid (filt (A.take (j + 1)) = filt (A.take j) ++ [⟨ek, ev, false, eq⟩]) := HFT
                obtain ⟨F, HFF⟩ : ∃ x, Hid (filt (A.take j) = x) := ⟨_, rfl⟩
                rw [HFF.out] at HJ HF
                have HROW : Hid ((wq.alloc (.cells #[.string ek, .string ev, .bool false, .int .i64 eq] 29)).ownsRow wr.heap.size 29 4 u11 F.length (flatE F)) := own_below HJ.out.1 (bel_alloc _ _) (Nat.le_refl _)
                have HSZ : Hid (F.length ≤ 60 ∧ wr.heap.size ≤ (wq.alloc (.cells #[.string ek, .string ev, .bool false, .int .i64 eq] 29)).heap.size) := ⟨by rw [← HFF.out]; have h1 := filt_len (A.take j); rw [List.length_take] at h1; have := HAA.out.2; omega, by have := HJ.out.2.size; simp; omega⟩
                obtain ⟨i0, hi, hz0, hz1, hz2⟩ := info_parts info23
                clear HFT
                go_wp2_with (at_builtin; refine wpList_append_lies _ rfl (.tmp 61) (.tmp 66) 25 rfl wr.heap.size 29 i0 _ 4 48 Try.underlying25 hi hz0 hz1 hz2 rfl (by decide) u11 F.length (flatE F) rfl HROW.out ⟨wq.heap.size, 0, none⟩ 1 1 (encE ⟨ek, ev, false, eq⟩) rfl rfl (World.news_of_block (cs := (encE ⟨ek, ev, false, eq⟩).toArray) (t := 29) (fr := (0, 0)) (by rw [heap_alloc_get, if_pos rfl]; rfl)) (encE_one _) (by decide) (by have := HSZ.out.1; unfold maxLen; omega) (by have := HSZ.out.1; omega) HSZ.out.2 _ rfl ?_)
                intro g7 cap7 w7 hr7 hg7 hl7 hlt7
                have HL7 : Hid (w7.ownsRow wr.heap.size 29 4 (.slice (some ⟨g7, 0, none⟩) (F.length + 1) cap7) (filt (A.take (j + 1))).length (flatE (filt (A.take (j + 1)))) ∧ Below wr.heap.size wr w7) := by
                  refine ⟨?_, ((HJ.out.2.alloc HJ.out.2.size _)).trans ((Below.refl _ _).grown hg7 HSZ.out.2 (fun k hk => (HROW.out.lt k hk).1))⟩
                  rw [HF.out, List.length_append, List.length_singleton, flatE_append]
                  have : flatE [(⟨ek, ev, false, eq⟩ : E)] = encE ⟨ek, ev, false, eq⟩ := by simp [flatE]
                  rw [this]; exact hr7
                clear hr7 hg7 hl7 hlt7 HROW
                go_wp2_with fail
                go_roundw
                case rel => exact ⟨j + 1, by go_num, by omega, HL7.out⟩
                case measure => simp [intOf]; omega
            · have hjz : ¬ (j : Int) < (m : Int) := by omega
              have HF : Hid (filt (A.take j) = WA) := by show _ = _; rw [List.take_of_length_le (by rw [HM.out]; omega), HWF.out]
              rw [HF.out] at HJ
              obtain ⟨fo, fc, hf, hfe, -⟩ := ent_slice HJ.out.1 rfl
              subst hf
              have HFE : Hid (EntsV wq fo WA.length WA) := hfe
              clear hfe hlt
              go_wp2_with fail
              go_meet
              case rel => exact ⟨fo, fc, rfl, HFE.out, HJ.out.2⟩
      case rest =>
        obtain ⟨wo, wcc, rfl, HW⟩ := hcut
        have HBC : Hid (Below w2.heap.size w2 wc) := HL.out.2.2.trans (HW.out.2.mono HL.out.2.2.size)
        have HPA : Hid (∀ W, Below wc.heap.size wc W → PIn W ⟨.slice po m pc, A⟩) := fun W hW => HPI.out W (HBC.out.trans (hW.mono HBC.out.size))
        have HPL : Hid (∀ W, Below wc.heap.size wc W → PIn W ⟨.slice lo L.length lc, L⟩) := fun W hW => ((PIn.of_own HL.out.2.1).below HW.out.2 (Nat.le_refl _)).below hW (Nat.le_refl _)
        have HEW : Hid (∀ W, Below wc.heap.size wc W → EntsV W wo WA.length WA) := fun W hW => HW.out.1.below hW (Nat.le_refl _)
        have H3 := one_three HAA.out.1 HLM.out.1 HLM.out.2.1 b
        rw [HWA.out] at H3
        have HT3 : Hid _ := H3
        have HLN : Hid (A.length ≤ 60 ∧ L.length ≤ 60) := ⟨HAA.out.2, HLM.out.2.2⟩
        have D1 : Hid _ := merge_built [⟨.slice po m pc, A⟩] 1 rfl (by decide) (by decide) wc (fun p hp => by rw [List.mem_singleton.1 hp]; exact HPA.out wc (Below.refl _ _)) #[.slice po m pc] rfl b WA HT3.out.1 (by have := HLN.out; simp [tot]; omega)
        clear H3
        go_wp2_with fail
        refine Calls.mono D1.out ?_
        rintro e w4 ⟨o1, c1, rfl, he1, hb4⟩
        have HB4 : Hid (Below wc.heap.size wc w4) := hb4
        have S1 : Hid _ := same_any o1 WA.length c1 WA wo WA.length wcc WA w4 he1 (HEW.out w4 hb4) (by have := HWL.out; omega) (by have := HWL.out; omega)
        rw [decide_eq_true (rfl : WA = WA)] at S1
        clear hb4 he1 D1
        go_wp2_with fail
        refine Calls.mono S1.out ?_
        rintro e w5 ⟨rfl, hb5⟩
        have HB5 : Hid (Below wc.heap.size wc w5) := HB4.out.trans (hb5.mono HB4.out.size)
        have D2 : Hid _ := merge_built [⟨.slice po m pc, A⟩, ⟨.slice po m pc, A⟩, ⟨.slice po m pc, A⟩] 3 rfl (by decide) (by decide) w5 (fun p hp => by
          simp only [List.mem_cons, List.not_mem_nil, or_false] at hp
          rcases hp with rfl | rfl | rfl <;> exact HPA.out w5 HB5.out) #[.slice po m pc, .slice po m pc, .slice po m pc] rfl b WA HT3.out.2.1 (by have := HLN.out; simp [tot]; omega)
        clear hb5 S1 HB4
        go_wp2_with fail
        refine Calls.mono D2.out ?_
        rintro e w6 ⟨o2, c2, rfl, he2, hb6⟩
        have HB6 : Hid (Below wc.heap.size wc w6) := HB5.out.trans (hb6.mono HB5.out.size)
        have S2 : Hid _ := same_any o2 WA.length c2 WA wo WA.length wcc WA w6 he2 (HEW.out w6 HB6.out) (by have := HWL.out; omega) (by have := HWL.out; omega)
        rw [decide_eq_true (rfl : WA = WA)] at S2
        clear hb6 he2 D2 HB5
        go_wp2_with fail
        refine Calls.mono S2.out ?_
        rintro e w7 ⟨rfl, hb7⟩
        have HB7 : Hid (Below wc.heap.size wc w7) := HB6.out.trans (hb7.mono HB6.out.size)
        have D3 : Hid _ := merge_built [⟨.slice none 0 0, []⟩, ⟨.slice po m pc, A⟩, ⟨.slice lo L.length lc, L⟩, ⟨.slice none 0 0, []⟩] 4 rfl (by decide) (by decide) w7 (fun p hp => by
          simp only [List.mem_cons, List.not_mem_nil, or_false] at hp
          rcases hp with rfl | rfl | rfl | rfl
          · exact ⟨none, 0, rfl, ⟨rfl, fun h => absurd h (Nat.lt_irrefl _)⟩, Nat.le_refl _, by omega, fun _ => rfl⟩
          · exact HPA.out w7 HB7.out
          · exact HPL.out w7 HB7.out
          · exact ⟨none, 0, rfl, ⟨rfl, fun h => absurd h (Nat.lt_irrefl _)⟩, Nat.le_refl _, by omega, fun _ => rfl⟩) #[.slice none 0 0, .slice po m pc, .slice lo L.length lc, .slice none 0 0] rfl b WA HT3.out.2.2 (by have := HLN.out; simp [tot]; omega)
        clear hb7 S2 HB6
        go_wp2_with fail
        refine Calls.mono D3.out ?_
        rintro e w8 ⟨o3, c3, rfl, he3, hb8⟩
        have HB8 : Hid (Below wc.heap.size wc w8) := HB7.out.trans (hb8.mono HB7.out.size)
        have S3 : Hid _ := same_any o3 WA.length c3 WA wo WA.length wcc WA w8 he3 (HEW.out w8 HB8.out) (by have := HWL.out; omega) (by have := HWL.out; omega)
        rw [decide_eq_true (rfl : WA = WA)] at S3
        clear hb8 he3 D3 HB7
        go_wp2_with fail
        refine Calls.mono S3.out ?_
        rintro e w9 ⟨rfl, hb9⟩
        have HB9 : Hid (Below w.heap.size w w9) := by
          have h1 : Below wc.heap.size wc w9 := HB8.out.trans (hb9.mono HB8.out.size)
          have h2 : Below w2.heap.size w2 w9 := HBC.out.trans (h1.mono HBC.out.size)
          exact HB2.out.trans (h2.mono HB2.out.size)
        clear hb9 S3
        go_wp2
        go_ret
        exact ⟨rfl, HB9.out⟩
end Go.Proofs.Yteggjenncmjfmaa
