/-
  What marlstoneref11.Bytes answers: contracts over this translation.
-/
import Derived.Test.YtcgjhopfdpaocaaDoorTbO
import Derived.Test.YtcgjhopfdpaocaaDoorPartAJ
import Derived.Test.YtcgjhopfdpaocaaDoorPartBI
namespace Go.Proofs.YtcgjhopfdpaocaaDoor
open Go.RowKit Go.Sort Go.Shelf
set_option linter.unusedSectionVars false
variable [Inhabited E] [DecidableEq E]
set_option maxRecDepth 100000 in
set_option maxHeartbeats 4000000 in
theorem refBytesT_wrong (ao : Option Addr) (n c : Nat) (es : List E) (w : World) (hE : EntsV w ao n es) (hsm : Small es) (hbig : n ≤ 1000000000000) (hf : fitB es = false) :
    Calls Tryd.prog 14 #[.slice ao n c] w fun e w' => e = .returned (.tuple #[.string ⟨#[]⟩, .int .i64 1]) ∧ Below w.heap.size w w' := by
  have CF := refFit_any ao n c es w hE hsm hbig
  rw [hf] at CF
  have HCF : Hid _ := CF
  clear CF hE hsm hf
  go_enter Tryd.func14, Tryd.ntmps14
  go_wp2_with fail
  refine Calls.mono HCF.out ?_
  rintro e w1 ⟨rfl, hb1⟩
  have HB : Hid _ := hb1
  clear hb1
  go_wp2
  go_ret2
  exact ⟨rfl, HB.out⟩
set_option maxRecDepth 100000 in
set_option maxHeartbeats 4000000 in
theorem refBytesT_some (ao : Option Addr) (n c : Nat) (es : List E) (w : World) (hE : EntsV w ao n es) (hnc : n ≤ c) (hf : fitB es = true) :
    Calls Tryd.prog 14 #[.slice ao n c] w fun e w' => e = .returned (.tuple #[.string (bStr (fileB es)), .int .i64 0]) ∧ Below w.heap.size w w' := by
  have hlen := fit_len hf
  have hln := hE.1
  have CF := refFit_any ao n c es w hE (right_small (fit_all hf)) (by omega)
  rw [hf] at CF
  have HCF : Hid _ := CF
  obtain ⟨b, off, hao, hEn⟩ := hE.2 (by omega)
  subst hao
  have HE : Hid (EntsV w (some ⟨b, off, none⟩) n es) := hE
  have HF : Hid (fitB es = true) := hf
  have HLN : Hid (es.length = n) := hln
  have h64 : n ≤ 64 := by omega
  have hn4 := (nT_le hf).2
  have HFB : Hid (fileB es = letT ++ bodyT es (nT es) ++ idxT es (nT es) ++ fixB (nT es) ++ fixB (letT ++ bodyT es (nT es)).length) := by show _ = _; rw [fileB, List.length_append]; rfl
  obtain ⟨out, HOUT⟩ : ∃ o, Hid (fileB es = o) := ⟨_, rfl⟩
  rw [HOUT.out] at HFB ⊢
  clear hE hf CF hEn hln hlen
  go_enter Tryd.func14, Tryd.ntmps14
  go_wp2_with fail
  refine Calls.mono HCF.out ?_
  rintro e w1 ⟨rfl, hb1⟩
  have HB1 : Hid (Below w.heap.size w w1) := hb1
  clear hb1 HCF
  go_wp2
  go_loopw [5, 6, 7, 8, 9, 10] (fun s5 s6 s7 s8 _ _ wr => ∃ k : Nat, s8 = .int .i64 (16 * (k : Int)) ∧ s7 = .int .i64 (k : Int) ∧ s5 = .string (bStr (letT ++ bodyT es k)) ∧ s6 = .string (bStr (idxT es k)) ∧ k ≤ 5 ∧ Hid (k ≤ nT es) ∧ Hid (Below w.heap.size w wr)) (fun _ _ _ s8 _ _ _ => 200 - (intOf s8).toNat)
  case atStart => exact ⟨0, rfl, rfl, rfl, rfl, by omega, Nat.zero_le _, HB1.out⟩
  case round =>
    obtain ⟨k, rfl, rfl, rfl, rfl, hk5, HKN, HBr⟩ := hrel
    have hbt := bodyT_len HF.out k HKN.out
    have hit := idxT_len HF.out k HKN.out
    have hbl0 : (letT ++ bodyT es k).length ≤ 500004 := by rw [List.length_append]; simp only [letT, List.length_cons, List.length_nil]; omega
    by_cases hlt : 16 * k < n
    · have hltz : 16 * (k : Int) < (n : Int) := by omega
      have hkn : k < nT es := nT_lt.2 (by rw [HLN.out]; exact hlt)
      obtain ⟨hi, hhi⟩ : ∃ hi, min n (16 * k + 16) = hi := ⟨_, rfl⟩
      have hmin : min (n : Int) (16 * (k : Int) + 16) = (hi : Int) := by omega
      have hle1 : 16 * (k : Int) ≤ (hi : Int) := by omega
      have hle2 : (hi : Int) ≤ (c : Int) := by omega
      have hne : ¬ (c = 16 * k) := by omega
      have HEV : Hid (EntsV wr (some ⟨b, off + 16 * k * 4, none⟩) (hi - 16 * k) (chunk es k)) := by
        have h1 := (HE.out.below HBr.out (Nat.le_refl _)).drop (16 * k) (by omega)
        have h2 := h1.take (hi - 16 * k) (by omega)
        have h3 : (es.drop (16 * k)).take (hi - 16 * k) = chunk es k := by
          unfold chunk
          by_cases h16 : 16 * k + 16 ≤ n
          · rw [show hi - 16 * k = 16 from by omega]
          · have hl : (es.drop (16 * k)).length = n - 16 * k := by rw [List.length_drop, HLN.out]
            rw [List.take_of_length_le (by omega), List.take_of_length_le (by omega)]
        rw [h3] at h2; exact h2
      have HFC : Hid (fitB (chunk es k) = true) := fit_chunk HF.out hkn
      have HCB : Hid (Calls Tryd.prog 36 #[.slice (some ⟨b, off + 16 * k * 4, none⟩) (hi - 16 * k) (c - 16 * k)] wr fun e w' => e = .returned (.tuple #[.string (bStr (blkT es k)), .int .i64 0]) ∧ Below wr.heap.size wr w') := refBlock_some (some ⟨b, off + 16 * k * 4, none⟩) (hi - 16 * k) (c - 16 * k) (chunk es k) wr HEV.out (right_small (fit_all HFC.out)) HFC.out
      have HKEY : Hid (∀ W, Below w.heap.size w W → W.cell? ⟨b, off + 16 * k * 4, none⟩ = some (.string (keyT es k))) := fun W hW => by
        have h1 := HE.out.below hW (Nat.le_refl _)
        obtain ⟨b', off', hao, hEn⟩ := h1.2 (by omega)
        cases hao
        exact (ents_four hEn (16 * k) (by rw [HLN.out]; exact hlt) (k := es[16 * k]!.key) (v := es[16 * k]!.value) (d := es[16 * k]!.del) (q := es[16 * k]!.seq) rfl).1
      have hbl := blkT_len HF.out hkn
      have hkz := keyT_size HF.out hkn
      have htl := textB_len2 (keyT es k)
      have HB2 : Hid (bodyT es (k + 1) = bodyT es k ++ blkT es k) := rfl
      have HI2 : Hid (idxT es (k + 1) = idxT es k ++ (textB (strB (keyT es k)) ++ putB (blkT es k).length)) := rfl
      obtain ⟨bd, HBD⟩ : ∃ x, Hid (letT ++ bodyT es k = x) := ⟨_, rfl⟩
      obtain ⟨ix, HIX⟩ : ∃ x, Hid (idxT es k = x) := ⟨_, rfl⟩
      obtain ⟨bk, HBK⟩ : ∃ x, Hid (blkT es k = x) := ⟨_, rfl⟩
      obtain ⟨ky, HKY⟩ : ∃ x, Hid (keyT es k = x) := ⟨_, rfl⟩
      have HNB : Hid (bStr (letT ++ bodyT es (k + 1)) = bStr bd ++ bStr bk) := by show _ = _; rw [HB2.out, ← List.append_assoc, HBD.out, HBK.out, ← bStr_add]
      rw [HBK.out] at HI2 HCB hbl
      rw [HIX.out] at HI2 hit ⊢
      rw [HKY.out] at HI2 HKEY hkz htl
      rw [HBD.out] at hbl0 ⊢
      have z1 : (bStr bd).size ≤ 500004 := by rw [size_bStr]; exact hbl0
      have z2 : (bStr bk).size = bk.length := size_bStr bk
      have z3 : (bStr ix).size ≤ 800 := by rw [size_bStr]; omega
      obtain ⟨sb, HSB⟩ : ∃ x, Hid (bStr bk = x) := ⟨_, rfl⟩
      obtain ⟨sd, HSD⟩ : ∃ x, Hid (bStr bd = x) := ⟨_, rfl⟩
      rw [HSB.out] at HCB z2 HNB
      rw [HSD.out] at z1 HNB ⊢
      have z4 : sb.size ≤ 100000 := by omega
      have hns : ¬ (9223372036854775807 < sd.size + sb.size) := by omega
      have HZ2 : Hid (sb.size = bk.length) := z2
      have hwu : IntKind.u64.wrap (sb.size : Int) = (sb.size : Int) := by rw [IntKind.wrap_u64]; omega
      have HCT : Hid (∀ W, Calls Tryd.prog 38 #[.string (bStr ix), .string ky] W fun e w' => e = .returned (.string (bStr (ix ++ textB (strB ky)))) ∧ Below W.heap.size W w') := fun W => by
        have := refPutText_any (bStr ix) ky W (by omega) (by omega)
        rw [strB_bStr] at this; exact this
      have hit2 : (bStr (ix ++ textB (strB ky))).size ≤ 2000 := by rw [size_bStr, List.length_append]; omega
      obtain ⟨i2, HI22⟩ : ∃ x, Hid (ix ++ textB (strB ky) = x) := ⟨_, rfl⟩
      rw [HI22.out] at HCT hit2
      have HCU : Hid (∀ W, Calls Tryd.prog 37 #[.string (bStr i2), .int .u64 (sb.size : Nat)] W fun e w' => e = .returned (.string (bStr (i2 ++ putB sb.size))) ∧ Below W.heap.size W w') := fun W => by
        have := refPut_any (bStr i2) sb.size W (by omega) (by omega)
        rw [strB_bStr] at this; exact this
      have HNI : Hid (idxT es (k + 1) = i2 ++ putB sb.size) := by show _ = _; rw [HI2.out, ← List.append_assoc, HI22.out, HZ2.out]
      clear hhi hbt hit hbl0 hbl hkz htl z1 z2 z3
      go_wp2_with fail
      refine Calls.mono HCB.out ?_
      rintro e w2 ⟨rfl, hb2⟩
      have HBw2 : Hid (Below w.heap.size w w2) := HBr.out.trans (hb2.mono HBr.out.size)
      have hkc := HKEY.out w2 HBw2.out
      clear hb2 HCB
      go_wp2_with fail
      refine (HCT.out _).mono ?_
      rintro e w3 ⟨rfl, hb3⟩
      have HBw3 : Hid (Below w.heap.size w w3) := HBw2.out.trans (hb3.mono HBw2.out.size)
      clear hb3 hkc
      go_wp2_with fail
      refine (HCU.out _).mono ?_
      rintro e w4 ⟨rfl, hb4⟩
      have HBw4 : Hid (Below w.heap.size w w4) := HBw3.out.trans (hb4.mono HBw3.out.size)
      clear hb4
      go_wp2
      go_roundw
      case rel => exact ⟨k + 1, by go_num, by go_num, by rw [HNB.out], by rw [HNI.out], by omega, hkn, HBw4.out⟩
      case measure => simp [intOf]; omega
    · have hltz : ¬ 16 * (k : Int) < (n : Int) := by omega
      have HKE : Hid (nT es = k) := by
        show _ = _
        have h1 : ¬ k < nT es := fun h => hlt (by have := nT_lt.1 h; rw [HLN.out] at this; exact this)
        have := HKN.out
        omega
      rw [HKE.out] at HFB
      obtain ⟨bd, HBD⟩ : ∃ x, Hid (letT ++ bodyT es k = x) := ⟨_, rfl⟩
      obtain ⟨ix, HIX⟩ : ∃ x, Hid (idxT es k = x) := ⟨_, rfl⟩
      rw [HBD.out] at HFB hbl0 ⊢
      rw [HIX.out] at HFB hit ⊢
      have z1 := size_bStr bd
      have z2 := size_bStr ix
      obtain ⟨sd, HSD⟩ : ∃ x, Hid (bStr bd = x) := ⟨_, rfl⟩
      obtain ⟨si, HSI⟩ : ∃ x, Hid (bStr ix = x) := ⟨_, rfl⟩
      obtain ⟨s1, HS1⟩ : ∃ x, Hid (bStr (bd ++ ix ++ fixB k) = x) := ⟨_, rfl⟩
      obtain ⟨so, HSO⟩ : ∃ x, Hid (bStr out = x) := ⟨_, rfl⟩
      have HC1 : Hid (∀ W, Calls Tryd.prog 39 #[.string (sd ++ si), .int .u32 (k : Nat)] W fun e w' => e = .returned (.string s1) ∧ Below W.heap.size W w') := fun W => by
        have h0 : (bStr (bd ++ ix)).size ≤ 4611686018427387904 := by rw [size_bStr, List.length_append]; omega
        have := refPutFixed_any (bStr (bd ++ ix)) k W h0 (by omega)
        rw [strB_bStr, ← bStr_add, HSD.out, HSI.out] at this
        rw [← HS1.out]; exact this
      have HC2 : Hid (∀ W, Calls Tryd.prog 39 #[.string s1, .int .u32 (sd.size : Nat)] W fun e w' => e = .returned (.string so) ∧ Below W.heap.size W w') := fun W => by
        have h0 : (bStr (bd ++ ix ++ fixB k)).size ≤ 4611686018427387904 := by rw [size_bStr, List.length_append, List.length_append, fixB_len]; omega
        have := refPutFixed_any (bStr (bd ++ ix ++ fixB k)) (bStr bd).size W h0 (by omega)
        rw [strB_bStr, size_bStr, ← HFB.out, HS1.out] at this
        rw [← HSD.out, size_bStr, ← HSO.out]; exact this
      rw [HSD.out] at z1
      rw [HSI.out] at z2
      rw [HSD.out, HSI.out]
      have z3 : sd.size ≤ 500004 := by omega
      have hns : ¬ (9223372036854775807 < sd.size + si.size) := by omega
      have hw1 : IntKind.u32.wrap (k : Int) = (k : Int) := by rw [IntKind.wrap_u32]; omega
      have hw2 : IntKind.u32.wrap (sd.size : Int) = (sd.size : Int) := by rw [IntKind.wrap_u32]; omega
      clear z3
      clear z1 z2 hit hbl0 hbt
      go_wp2_with fail
      refine (HC1.out _).mono ?_
      rintro e w2 ⟨rfl, hb2⟩
      have HBw2 : Hid (Below w.heap.size w w2) := HBr.out.trans (hb2.mono HBr.out.size)
      clear hb2
      go_wp2_with fail
      refine (HC2.out _).mono ?_
      rintro e w3 ⟨rfl, hb3⟩
      have HBw3 : Hid (Below w.heap.size w w3) := HBw2.out.trans (hb3.mono HBw2.out.size)
      clear hb3
      go_wp2
      go_ret2
      exact ⟨by rw [HSO.out]; rfl, HBw3.out⟩
end Go.Proofs.YtcgjhopfdpaocaaDoor
