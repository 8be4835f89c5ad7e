/-
  What marlstoneref11.Parse answers: a contract over this translation.
-/
import Derived.Test.YtcgjhopfdpaocaaDoorTbRf
import Derived.Test.YtcgjhopfdpaocaaDoorParsW
namespace Go.Proofs.YtcgjhopfdpaocaaDoor
open Go.RowKit Go.Sort Go.Shelf
set_option linter.unusedSectionVars false
variable [Inhabited E] [DecidableEq E]
/-- What was read so far, if the bytes are a file. -/
def RInvT (bs : List UInt8) (N i : Nat) (ix rs : List UInt8) (acc : List E) : Prop := ∀ l0, fitB l0 = true → fileB l0 = bs → i ≤ nT l0 ∧ N = nT l0 ∧ rs = bodyF l0 i (N - i) ∧ ix = idxF l0 i (N - i) ∧ acc = l0.take (16 * i)
theorem rinvT_zero {bs : List UInt8} : RInvT bs (fixOf (bs.drop (bs.length - 8))).1 0 ((bs.take (bs.length - 8)).drop (placeR bs)) ((bs.take (placeR bs)).drop 4) ([] : List E) := by
  intro l0 hf hb
  subst hb
  rw [file_count hf, file_body hf, file_idx hf, Nat.sub_zero, bodyF_all, idxF_all]
  exact ⟨Nat.zero_le _, rfl, rfl, rfl, by simp⟩
theorem rinvT_go {bs : List UInt8} {N i : Nat} {ix rs : List UInt8} {acc : List E} (h : RInvT bs N i ix rs acc) (hi : i < N) (hn : ¬ goT rs ix) : NoFile bs := by
  intro l0 hf hb
  obtain ⟨h1, h2, h3, h4, -⟩ := h l0 hf hb
  obtain ⟨j, hj⟩ : ∃ j, N - i = j + 1 := ⟨N - i - 1, by omega⟩
  rw [hj] at h3 h4
  exact hn (by rw [h3, h4]; exact go_file hf (by omega))
theorem rinvT_part {bs : List UInt8} {N i : Nat} {ix rs : List UInt8} {acc l0 : List E} (h : RInvT bs N i ix rs acc) (hi : i < N) (hf : fitB l0 = true) (hb : fileB l0 = bs) : rs.take (gT ix).1 = blkT l0 i ∧ i < nT l0 ∧ rs.drop (gT ix).1 = bodyF l0 (i + 1) (N - (i + 1)) ∧ ix.drop ((textOf ix).2.1 + (gT ix).2.1) = idxF l0 (i + 1) (N - (i + 1)) := by
  obtain ⟨h1, h2, h3, h4, -⟩ := h l0 hf hb
  obtain ⟨j, hj⟩ : ∃ j, N - i = j + 1 := ⟨N - i - 1, by omega⟩
  have hj2 : N - (i + 1) = j := by omega
  have hlt : i < nT l0 := by omega
  rw [hj] at h3 h4
  obtain ⟨-, -, g2, g3, -⟩ := step_file (j := j) hf hlt
  rw [h3, h4, g2, hj2]
  simp only
  refine ⟨?_, hlt, ?_, ?_⟩
  · rw [bodyF, List.take_left]
  · rw [bodyF, List.drop_left]
  · rw [g3, idxF, List.drop_left]
theorem rinvT_blk {bs : List UInt8} {N i : Nat} {ix rs : List UInt8} {acc : List E} (h : RInvT bs N i ix rs acc) (hi : i < N) (hn : NoBlock (rs.take (gT ix).1)) : NoFile bs := by
  intro l0 hf hb
  obtain ⟨h1, h2, -, -⟩ := rinvT_part h hi hf hb
  exact hn (chunk l0 i) (fit_chunk hf h2) h1.symm
theorem take_chunk (l0 : List E) (i : Nat) : l0.take (16 * (i + 1)) = l0.take (16 * i) ++ chunk l0 i := by
  unfold chunk
  rw [show 16 * (i + 1) = 16 * i + 16 from by omega, List.take_add]
theorem rinvT_next {bs : List UInt8} {N i : Nat} {ix rs : List UInt8} {acc es : List E} (h : RInvT bs N i ix rs acc) (hi : i < N) (hB : IsBlock (rs.take (gT ix).1) es) : RInvT bs N (i + 1) (ix.drop ((textOf ix).2.1 + (gT ix).2.1)) (rs.drop (gT ix).1) (acc ++ es) := by
  intro l0 hf hb
  obtain ⟨h1, h2, h3, h4⟩ := rinvT_part h hi hf hb
  obtain ⟨-, k2, -, -, k5⟩ := h l0 hf hb
  have he : chunk l0 i = es := hB.2.2 _ (fit_chunk hf h2) h1.symm
  exact ⟨by omega, k2, h3, h4, by rw [take_chunk, ← k5, he]⟩
theorem rinvT_end {bs : List UInt8} {N : Nat} {ix rs : List UInt8} {acc : List E} (h : RInvT bs N N ix rs acc) : Reads bs acc := by
  intro l0 hf hb
  obtain ⟨-, h2, -, -, h5⟩ := h l0 hf hb
  rw [h5, List.take_of_length_le (by rw [h2]; unfold nT; omega)]
theorem str_take (s : ByteArray) (k : Nat) : s.extract 0 k = bStr ((strB s).take k) := by
  have := extract_strB s 0 k
  rw [Nat.zero_add, List.drop_zero] at this; exact this
theorem str_mid (s : ByteArray) (a b : Nat) (h : a ≤ b) : s.extract a b = bStr (((strB s).take b).drop a) := by
  have := extract_strB s a (b - a)
  rw [show a + (b - a) = b from by omega] at this
  rw [this, List.drop_take]; rfl
set_option maxRecDepth 100000 in
set_option maxHeartbeats 4000000 in
theorem refParseT_any (bs : List UInt8) (w : World) (hs : bs.length ≤ 8000) :
    Calls Tryd.prog 22 #[.string (bStr bs)] w fun e w' => ParT w.heap.size bs e w' ∧ Below w.heap.size w w' := by
  have hsz := size_bStr bs
  obtain ⟨S, HS⟩ : ∃ S, Hid (bStr bs = S) := ⟨_, rfl⟩
  have HSB : Hid (strB S = bs) := by show _ = _; rw [← HS.out]; exact strB_bStr bs
  rw [HS.out] at hsz ⊢
  have HSZ : Hid (S.size = bs.length) := hsz
  by_cases h12 : S.size < 12
  · have hz : (S.size : Int) < 12 := by omega
    have HN : Hid (NoFile bs) := fun l0 hf hb => by have := (fileB_len hf).2; rw [hb] at this; omega
    clear h12 hsz hs
    go_enter Tryd.func22, Tryd.ntmps22
    go_wp2
    go_ret2
    exact ⟨.inl ⟨rfl, HN.out⟩, Below.refl _ _⟩
  · obtain ⟨m, hm⟩ : ∃ m, S.size = m + 8 := ⟨S.size - 8, by omega⟩
    have hm9 : m ≤ 7992 := by omega
    have hm4 : 4 ≤ m := by omega
    have hmB : (m : Int) ≤ 7992 := by omega
    have HM : Hid (S.size = m + 8) := hm
    have HBL : Hid (bs.length = m + 8) := by show _ = _; omega
    have hz : ¬ (S.size : Int) < 12 := by omega
    have e1 : (S.size : Int) - 8 = (m : Int) := by omega
    have e2 : (S.size : Int) - 4 = ((m + 4 : Nat) : Int) := by omega
    have q1 : (m : Int) ≤ (S.size : Int) := by omega
    have q2 : ((m + 4 : Nat) : Int) ≤ (S.size : Int) := by omega
    have HF8 : Hid (∀ W, Calls Tryd.prog 47 #[.string (S.extract m S.size)] W fun e w' => e = .returned (.tuple #[.int .u32 (fixOf (bs.drop m)).1, .bool (fixOf (bs.drop m)).2]) ∧ Below W.heap.size W w') := fun W => by
      have h0 : (S.extract m S.size).size ≤ 9223372036854775807 := by rw [ByteArray.size_extract]; omega
      have := refFixed_any (S.extract m S.size) W h0
      rw [strB_from, HSB.out] at this; exact this
    have HF4 : Hid (∀ W, Calls Tryd.prog 47 #[.string (S.extract (m + 4) S.size)] W fun e w' => e = .returned (.tuple #[.int .u32 (fixOf (bs.drop (m + 4))).1, .bool (fixOf (bs.drop (m + 4))).2]) ∧ Below W.heap.size W w') := fun W => by
      have h0 : (S.extract (m + 4) S.size).size ≤ 9223372036854775807 := by rw [ByteArray.size_extract]; omega
      have := refFixed_any (S.extract (m + 4) S.size) W h0
      rw [strB_from, HSB.out] at this; exact this
    have hR0 := rinvT_zero (bs := bs)
    have hpl : placeR bs = (fixOf (bs.drop (m + 4))).1 := by unfold placeR; rw [HBL.out, show m + 8 - 4 = m + 4 from by omega]
    rw [hpl, HBL.out, show m + 8 - 8 = m from by omega] at hR0
    have hnk : ∀ l0, fitB l0 = true → fileB l0 = bs → (fixOf (bs.drop m)).1 = nT l0 ∧ (fixOf (bs.drop (m + 4))).1 = 4 + (bodyT l0 (nT l0)).length ∧ (fixOf (bs.drop (m + 4))).1 ≤ m := fun l0 hf hb => by
      have h1 := file_count hf
      have h2 := file_place hf
      have h3 := fileB_length l0
      rw [hb, HBL.out, show m + 8 - 8 = m from by omega] at h1
      rw [hb, hpl] at h2
      rw [hb, HBL.out] at h3
      exact ⟨h1, h2, by omega⟩
    have hl8 := fixOf_lt (bs.drop m)
    have hl4 := fixOf_lt (bs.drop (m + 4))
    obtain ⟨Nn, HNN⟩ : ∃ x, Hid ((fixOf (bs.drop m)).1 = x) := ⟨_, rfl⟩
    obtain ⟨pl, HPL⟩ : ∃ x, Hid ((fixOf (bs.drop (m + 4))).1 = x) := ⟨_, rfl⟩
    obtain ⟨b8, HB8⟩ : ∃ x, Hid ((fixOf (bs.drop m)).2 = x) := ⟨_, rfl⟩
    obtain ⟨b4, HB4⟩ : ∃ x, Hid ((fixOf (bs.drop (m + 4))).2 = x) := ⟨_, rfl⟩
    rw [HNN.out, HB8.out] at HF8
    rw [HPL.out, HB4.out] at HF4
    rw [HNN.out] at hl8 hR0
    rw [HPL.out] at hl4 hR0
    have HNK : Hid (∀ l0, fitB l0 = true → fileB l0 = bs → Nn = nT l0 ∧ pl = 4 + (bodyT l0 (nT l0)).length ∧ pl ≤ m) := fun l0 hf hb => by
      have := hnk l0 hf hb
      rw [HNN.out, HPL.out] at this; exact this
    have HR0 : Hid (RInvT bs Nn 0 ((bs.take m).drop pl) ((bs.take pl).drop 4) ([] : List E)) := hR0
    have hpu : IntKind.u64.wrap (pl : Int) = (pl : Int) := by rw [IntKind.wrap_u64]; omega
    have hmu : IntKind.u64.wrap (m : Int) = (m : Int) := by rw [IntKind.wrap_u64]; omega
    have hpi : IntKind.i64.wrap (pl : Int) = (pl : Int) := by rw [IntKind.wrap_i64]; omega
    have hni : IntKind.i64.wrap (Nn : Int) = (Nn : Int) := by rw [IntKind.wrap_i64]; omega
    obtain ⟨S8, HS8⟩ : ∃ x, Hid (S.extract m S.size = x) := ⟨_, rfl⟩
    obtain ⟨S4, HS4⟩ : ∃ x, Hid (S.extract (m + 4) S.size = x) := ⟨_, rfl⟩
    have hx8 : S.extract m S.size = S8 := HS8.out
    have hx4 : S.extract (m + 4) S.size = S4 := HS4.out
    rw [HS8.out] at HF8
    rw [HS4.out] at HF4
    clear hR0 hpl hnk hsz hs h12
    rw [hm] at hx8 hx4 hz e1 e2 q1 q2
    have e3 : ((m : Int) + 8) - 8 = (m : Int) := by omega
    have e4 : ((m : Int) + 8) - 4 = (m : Int) + 4 := by omega
    have hl48 : S.size = m + 8 := hm
    clear hm
    go_enter Tryd.func22, Tryd.ntmps22
    go_wp2_with fail
    refine (HF8.out _).mono ?_
    rintro e w1 ⟨rfl, hb1⟩
    have HB1 : Hid (Below w.heap.size w w1) := hb1
    clear hb1
    go_wp2_with fail
    refine (HF4.out _).mono ?_
    rintro e w2 ⟨rfl, hb2⟩
    have HB2 : Hid (Below w.heap.size w w2) := HB1.out.trans (hb2.mono HB1.out.size)
    clear hb2 HF8 HF4 hx8 hx4
    by_cases c1 : 64 < Nn
    · have c1z : (64 : Int) < (Nn : Int) := by omega
      have c1d : decide (64 < Nn) = true := decide_eq_true c1
      have HN : Hid (NoFile bs) := fun l0 hf hb => by have h1 := (HNK.out l0 hf hb).1; have h2 := (nT_le hf).2; omega
      clear c1 hl8 hl4 hm9 hm4
      go_wp2
      go_ret2
      exact ⟨.inl ⟨rfl, HN.out⟩, HB2.out⟩
    · have c1z : ¬ (64 : Int) < (Nn : Int) := by omega
      have c1d : decide (64 < Nn) = false := decide_eq_false c1
      have c1e : decide ((64 : Int) < (Nn : Int)) = false := decide_eq_false c1z
      by_cases c2 : m < pl
      · have c2z : (m : Int) < (pl : Int) := by omega
        have c2d : decide (m < pl) = true := decide_eq_true c2
        have c2e : decide ((m : Int) < (pl : Int)) = true := decide_eq_true c2z
        have HN : Hid (NoFile bs) := fun l0 hf hb => by have := (HNK.out l0 hf hb).2.2; omega
        clear c1 c2 hl8 hl4 hm9 hm4
        go_wp2
        go_ret2
        exact ⟨.inl ⟨rfl, HN.out⟩, HB2.out⟩
      · have c2z : ¬ (m : Int) < (pl : Int) := by omega
        have c2d : decide (m < pl) = false := decide_eq_false c2
        have c2e : decide ((m : Int) < (pl : Int)) = false := decide_eq_false c2z
        by_cases c3 : pl < 4
        · have c3z : (pl : Int) < 4 := by omega
          have c3d : decide (pl < 4) = true := decide_eq_true c3
          have c3e : decide ((pl : Int) < 4) = true := decide_eq_true c3z
          have HN : Hid (NoFile bs) := fun l0 hf hb => by have := (HNK.out l0 hf hb).2.1; omega
          clear c1 c2 c3 hl8 hl4 hm9 hm4
          go_wp2
          go_ret2
          exact ⟨.inl ⟨rfl, HN.out⟩, HB2.out⟩
        · have c3z : ¬ (pl : Int) < 4 := by omega
          have c3d : decide (pl < 4) = false := decide_eq_false c3
          have c3e : decide ((pl : Int) < 4) = false := decide_eq_false c3z
          have y1 : (pl : Int) ≤ (m : Int) := by omega
          have y2 : (m : Int) ≤ (m : Int) + 8 := by omega
          have y3 : (4 : Int) ≤ (pl : Int) := by omega
          have y4 : (pl : Int) ≤ (m : Int) + 8 := by omega
          have hNb : Nn ≤ 64 := by omega
          obtain ⟨SI, HSI⟩ : ∃ x, Hid (S.extract pl m = x) := ⟨_, rfl⟩
          obtain ⟨SR, HSR⟩ : ∃ x, Hid (S.extract 4 pl = x) := ⟨_, rfl⟩
          have HSIB : Hid (strB SI = (bs.take m).drop pl) := by show _ = _; rw [← HSI.out, str_mid S pl m (by omega), strB_bStr, HSB.out]
          have HSRB : Hid (strB SR = (bs.take pl).drop 4) := by show _ = _; rw [← HSR.out, str_mid S 4 pl (by omega), strB_bStr, HSB.out]
          have HSIZ : Hid (SI.size ≤ 8000) := by show _ ≤ _; rw [← HSI.out, ByteArray.size_extract]; omega
          have HSRZ : Hid (SR.size ≤ 8000) := by show _ ≤ _; rw [← HSR.out, ByteArray.size_extract]; omega
          have hsi : S.extract pl m = SI := HSI.out
          have hsr : S.extract 4 pl = SR := HSR.out
          clear c1 c2 c3 hl8 hl4 hm9 hm4
          go_wp2
          go_loopw [8, 9, 10, 11, 12, 13, 14, 15, 16, 17, 18, 19] (fun s8 s9 s10 s11 _ _ _ _ _ _ _ _ wr => ∃ (i : Nat) (si sr : ByteArray) (acc : List E), s11 = .int .i64 (i : Int) ∧ s8 = .string si ∧ s9 = .string sr ∧ i ≤ Nn ∧ si.size ≤ 8000 ∧ sr.size ≤ 8000 ∧ acc.length ≤ 64 * i ∧ Hid (wr.ownsRow w.heap.size 51 4 s10 acc.length (flatE acc)) ∧ Hid (RInvT bs Nn i (strB si) (strB sr) acc) ∧ Hid (acc.all rightB = true) ∧ Hid (Below w.heap.size w wr)) (fun _ _ _ s11 _ _ _ _ _ _ _ _ _ => Nn - (intOf s11).toNat)
          case atStart => exact ⟨0, SI, SR, [], rfl, rfl, rfl, Nat.zero_le _, HSIZ.out, HSRZ.out, by simp, World.ownsRow_nil _ _ _ _, by show RInvT _ _ _ _ _ _; rw [HSIB.out, HSRB.out]; exact HR0.out, rfl, HB2.out⟩
          case round =>
            obtain ⟨i, si, sr, acc, rfl, rfl, rfl, hiN, hsi8, hsr8, hacc, HOW, HRI, HALL, HBr⟩ := hrel
            obtain ⟨L, HLL⟩ : ∃ L, Hid (acc.length = L) := ⟨_, rfl⟩
            rw [HLL.out] at HOW hacc
            obtain ⟨ao10, c10, hv10, hEA10, -⟩ := own_entsV0 HOW.out HLL.out
            have hHC10 : L ≤ c10 := by
              rcases HOW.out.2 with ⟨h1, h2⟩ | ⟨g, cap, cur, h1, -, -, h4, -⟩
              · omega
              · rw [hv10] at h1; injection h1 with x1 x2 x3; omega
            subst hv10
            have HEA10 : Hid (EntsV wr ao10 L acc) := hEA10
            have HHC10 : Hid (L ≤ c10) := hHC10
            clear hEA10 hHC10
            have hlsi := strB_length si
            have hlsr := strB_length sr
            by_cases hlt : i < Nn
            · have hltz : (i : Int) < (Nn : Int) := by omega
              have CT := refText_any si wr (by omega)
              obtain ⟨tn, HTN⟩ : ∃ t, Hid ((textOf (strB si)).2.1 = t) := ⟨_, rfl⟩
              obtain ⟨tk, HTK⟩ : ∃ t, Hid ((textOf (strB si)).2.2 = t) := ⟨_, rfl⟩
              obtain ⟨ts, HTS⟩ : ∃ t : ByteArray, Hid ((⟨(textOf (strB si)).1.toArray⟩ : ByteArray) = t) := ⟨_, rfl⟩
              rw [HTN.out, HTK.out, HTS.out] at CT
              have HCT : Hid _ := CT
              clear CT
              go_wp2_with fail
              refine Calls.mono HCT.out ?_
              rintro e w3 ⟨rfl, hw3⟩
              rw [hw3]
              clear hw3 HCT
              cases tk with
              | false =>
                have HN : Hid (NoFile bs) := rinvT_go HRI.out hlt (fun h => by have := h.1; rw [HTK.out] at this; cases this)
                clear hlsi hlsr hlt
                go_wp2
                go_ret2
                exact ⟨.inl ⟨rfl, HN.out⟩, HBr.out⟩
              | true =>
                have htn : tn ≤ si.size := by rw [← HTN.out, ← hlsi]; exact (textOf_once (strB si) (textOf (strB si)).1 (textOf (strB si)).2.1 (by rw [← HTK.out])).2.1
                have htz : (tn : Int) ≤ (si.size : Int) := by omega
                obtain ⟨s2, HS2⟩ : ∃ x, Hid (si.extract tn si.size = x) := ⟨_, rfl⟩
                have hs2 : si.extract tn si.size = s2 := HS2.out
                have HS2B : Hid (strB s2 = (strB si).drop tn) := by show _ = _; rw [← HS2.out]; exact strB_from si tn
                have CG := refGet_any s2 wr (by rw [← HS2.out, ByteArray.size_extract]; omega)
                have HGT : Hid (gT (strB si) = getB (strB s2)) := by show _ = _; unfold gT; rw [HTN.out, HS2B.out]
                obtain ⟨gs, HGS⟩ : ∃ t, Hid ((gT (strB si)).1 = t) := ⟨_, rfl⟩
                obtain ⟨gk, HGK⟩ : ∃ t, Hid ((gT (strB si)).2.1 = t) := ⟨_, rfl⟩
                obtain ⟨go, HGO⟩ : ∃ t, Hid ((gT (strB si)).2.2 = t) := ⟨_, rfl⟩
                rw [← HGT.out, HGS.out, HGK.out, HGO.out] at CG
                have HCG : Hid _ := CG
                have hru : IntKind.u64.wrap (sr.size : Int) = (sr.size : Int) := by rw [IntKind.wrap_u64]; omega
                clear CG
                go_wp2_with fail
                refine Calls.mono HCG.out ?_
                rintro e w4 ⟨rfl, hw4⟩
                rw [hw4]
                clear hw4 HCG hs2
                cases go with
                | false =>
                  have HN : Hid (NoFile bs) := rinvT_go HRI.out hlt (fun h => by have := h.2.1; rw [HGO.out] at this; cases this)
                  clear hlsi hlsr hlt htn
                  go_wp2
                  go_ret2
                  exact ⟨.inl ⟨rfl, HN.out⟩, HBr.out⟩
                | true =>
                  by_cases hgr : sr.size < gs
                  · have hgz : (sr.size : Int) < (gs : Int) := by omega
                    have HN : Hid (NoFile bs) := rinvT_go HRI.out hlt (fun h => by have := h.2.2; rw [HGS.out, hlsr] at this; omega)
                    clear hlsi hlsr hlt htn hgr
                    go_wp2
                    go_ret2
                    exact ⟨.inl ⟨rfl, HN.out⟩, HBr.out⟩
                  · have hgz : ¬ (sr.size : Int) < (gs : Int) := by omega
                    have hcut := sto_cut (rest := strB sr) (idx := strB si) ⟨HTK.out, HGO.out, by rw [HGS.out, hlsr]; omega⟩
                    rw [HTN.out, HGK.out, hlsi] at hcut
                    have hgi : IntKind.i64.wrap (gs : Int) = (gs : Int) := by rw [IntKind.wrap_i64]; omega
                    have hgn : (gs : Int) ≤ (sr.size : Int) := by omega
                    have htk : (tn : Int) + (gk : Int) ≤ (si.size : Int) := by omega
                    have hnt : ((tn : Int) + (gk : Int)).toNat = tn + gk := by omega
                    obtain ⟨s3, HS3⟩ : ∃ x, Hid (sr.extract 0 gs = x) := ⟨_, rfl⟩
                    obtain ⟨s4, HS4'⟩ : ∃ x, Hid (si.extract (tn + gk) si.size = x) := ⟨_, rfl⟩
                    obtain ⟨s5, HS5⟩ : ∃ x, Hid (sr.extract gs sr.size = x) := ⟨_, rfl⟩
                    have HS3B : Hid (s3 = bStr ((strB sr).take gs)) := by show _ = _; rw [← HS3.out]; exact str_take sr gs
                    have HS4B : Hid (strB s4 = (strB si).drop (tn + gk)) := by show _ = _; rw [← HS4'.out]; exact strB_from si _
                    have HS5B : Hid (strB s5 = (strB sr).drop gs) := by show _ = _; rw [← HS5.out]; exact strB_from sr _
                    have HS4Z : Hid (s4.size ≤ 8000) := by show _ ≤ _; rw [← HS4'.out, ByteArray.size_extract]; omega
                    have HS5Z : Hid (s5.size ≤ 8000) := by show _ ≤ _; rw [← HS5.out, ByteArray.size_extract]; omega
                    have HCP : Hid (Calls Tryd.prog 50 #[.string s3] wr fun e w' => Below wr.heap.size wr w' ∧ ParSays ((strB sr).take gs) e w') := by
                      rw [HS3B.out]
                      exact refParse4_any ((strB sr).take gs) wr (by rw [List.length_take]; omega)
                    have hs3 : sr.extract 0 gs = s3 := HS3.out
                    have hs4 : si.extract (tn + gk) si.size = s4 := HS4'.out
                    have hs5 : sr.extract gs sr.size = s5 := HS5.out
                    clear hlsi hlsr hgr hcut htn
                    go_wp2_with fail
                    refine Calls.mono HCP.out ?_
                    rintro e w5 ⟨hb5, he⟩
                    have HB5 : Hid (Below w.heap.size w w5) := HBr.out.trans (hb5.mono HBr.out.size)
                    have HO5 : Hid (w5.ownsRow w.heap.size 51 4 (.slice ao10 L c10) L (flatE acc)) := own_below HOW.out hb5 (Nat.le_refl _)
                    clear hb5 HCP hs3
                    rcases he with ⟨rfl, hno⟩ | ⟨l1, lo, lc, rfl, hIB, hEV, hl1, hlc⟩
                    · have HN : Hid (NoFile bs) := rinvT_blk HRI.out hlt (by rw [HGS.out]; exact hno)
                      clear hno hlt
                      go_wp2
                      go_ret2
                      exact ⟨.inl ⟨rfl, HN.out⟩, HB5.out⟩
                    · have hl64 := (fit_len hIB.1).2
                      have HEV : Hid (EntsV w5 lo l1.length l1) := hEV
                      have HRN : Hid (RInvT bs Nn (i + 1) (strB s4) (strB s5) (acc ++ l1)) := by
                        have h := rinvT_next (es := l1) HRI.out hlt (by rw [HGS.out]; exact hIB)
                        rw [HTN.out, HGK.out, HGS.out] at h
                        rw [HS4B.out, HS5B.out]; exact h
                      have HAL : Hid ((acc ++ l1).all rightB = true) := by show _ = _; rw [List.all_append, HALL.out, fit_all hIB.1]; rfl
                      obtain ⟨lb, lf, hlo, -⟩ := hEV.2 (fit_len hIB.1).1
                      subst hlo
                      obtain ⟨m1, HM1⟩ : ∃ x, Hid (l1.length = x) := ⟨_, rfl⟩
                      rw [HM1.out] at HEV hl64 ⊢
                      have HAC : Hid ((acc ++ l1).length ≤ 64 * (i + 1)) := by show _ ≤ _; rw [List.length_append, HM1.out, HLL.out]; omega
                      have HLL4 : Hid (L ≤ 4096) := by show _ ≤ _; omega
                      have HI1 : Hid (i + 1 ≤ Nn) := hlt
                      clear hIB hEV hl1 hlc hacc hlt
                      go_wp2_with (at_builtin; refine wpList_append_ents _ rfl (.tmp 115) (.tmp 116) rfl w.heap.size _ L acc rfl HO5.out HB5.out.size (some ⟨lb, lf, none⟩) m1 lc l1 rfl HEV.out (fun h => by cases h) (by have := HLL4.out; omega) ?_; intro v6 w6 hown6 hb6; have HO6 : Hid (w6.ownsRow w.heap.size 51 4 v6 (acc ++ l1).length (flatE (acc ++ l1))) := hown6; have HB6 : Hid (Below w.heap.size w w6) := HB5.out.trans hb6; clear hown6 hb6)
                      go_roundw
                      case rel => exact ⟨i + 1, s4, s5, acc ++ l1, by go_num, rfl, rfl, HI1.out, HS4Z.out, HS5Z.out, HAC.out, HO6, HRN, HAL, HB6⟩
                      case measure => have := HI1.out; simp [intOf]; omega
            · have hltz : ¬ (i : Int) < (Nn : Int) := by omega
              have hiE : i = Nn := by omega
              have HRD : Hid (Reads bs acc) := by
                have h := HRI.out
                rw [hiE] at h
                exact rinvT_end h
              have HEA : Hid (EntsV wr ao10 L acc) := HEA10.out
              have hL9 : L ≤ 4096 := by omega
              by_cases hf : fitB acc = true
              · have hz1 := HHC10.out
                have HCB : Hid _ := refBytesT_some ao10 L c10 acc wr HEA.out hz1 hf
                obtain ⟨X, HX⟩ : ∃ x, Hid (bStr (fileB acc) = x) := ⟨_, rfl⟩
                rw [HX.out] at HCB
                by_cases he : fileB acc = bs
                · have hcmp : (X.toList == S.toList) = true := by rw [← HX.out, ← HS.out, bstr_eq, decide_eq_true he]
                  have HIF : Hid (IsFile bs acc) := ⟨hf, he, HRD.out⟩
                  have hLp : 0 < L := by rw [← HLL.out]; exact (fit_len hf).1
                  obtain ⟨g, cg, hv, -⟩ := own_shapeE HOW.out hLp
                  injection hv with v1 v2 v3
                  subst v1
                  subst v3
                  clear he hiE hlt hf hz1 hlsi hlsr hsi8 hsr8 hacc hL9 hLp v2
                  go_wp2_with fail
                  refine Calls.mono HCB.out ?_
                  rintro e w5 ⟨rfl, hb5⟩
                  have HB5 : Hid (Below w.heap.size w w5) := HBr.out.trans (hb5.mono HBr.out.size)
                  have HO5 : Hid (w5.ownsRow w.heap.size 51 4 (.slice (some ⟨g, 0, none⟩) L c10) L (flatE acc)) := own_below HOW.out hb5 (Nat.le_refl _)
                  clear hb5 HCB
                  go_wp2
                  go_ret2
                  refine ⟨.inr ⟨g, c10, acc, ?_, HIF.out, ?_⟩, HB5.out⟩
                  · rw [HLL.out]; rfl
                  · rw [HLL.out]; exact HO5.out
                · have hcmp : (X.toList == S.toList) = false := by rw [← HX.out, ← HS.out, bstr_eq, decide_eq_false he]
                  have HN : Hid (NoFile bs) := no_of_reads HRD.out (fun h => he h.2)
                  clear he hiE hlt hf hz1 hlsi hlsr hsi8 hsr8 hacc hL9
                  go_wp2_with fail
                  refine Calls.mono HCB.out ?_
                  rintro e w5 ⟨rfl, hb5⟩
                  have HB5 : Hid (Below w.heap.size w w5) := HBr.out.trans (hb5.mono HBr.out.size)
                  clear hb5 HCB
                  go_wp2
                  go_ret2
                  exact ⟨.inl ⟨rfl, HN.out⟩, HB5.out⟩
              · have HCB : Hid _ := refBytesT_wrong ao10 L c10 acc wr HEA.out (right_small HALL.out) (by omega) (by simpa using hf)
                have HN : Hid (NoFile bs) := no_of_reads HRD.out (fun h => hf h.1)
                clear hiE hlt hf hlsi hlsr hsi8 hsr8 hacc hL9
                go_wp2_with fail
                refine Calls.mono HCB.out ?_
                rintro e w5 ⟨rfl, hb5⟩
                have HB5 : Hid (Below w.heap.size w w5) := HBr.out.trans (hb5.mono HBr.out.size)
                clear hb5 HCB
                go_wp2
                go_ret2
                exact ⟨.inl ⟨rfl, HN.out⟩, HB5.out⟩
end Go.Proofs.YtcgjhopfdpaocaaDoor
