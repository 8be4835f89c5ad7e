/-
  A file has the blocks of its entries: what the law TableBlocks answers, for any arguments.
-/
import Derived.Test.YtcgjhopfdpaocaaDoorTbO
namespace Go.Proofs.YtcgjhopfdpaocaaDoor
open Go.RowKit Go.Sort Go.Shelf
set_option linter.unusedSectionVars false
variable [Inhabited E] [DecidableEq E]
theorem file_at {es : List E} {k : Nat} (hk : k < nT es) : ∃ more, (fileB es).drop (4 + (bodyT es k).length) = blkT es k ++ more := by
  obtain ⟨j, hj⟩ : ∃ j, nT es = k + (j + 1) := ⟨nT es - k - 1, by omega⟩
  have h := bodyF_T es (j + 1) k
  rw [← hj, bodyF] at h
  refine ⟨bodyF es (k + 1) j ++ idxT es (nT es) ++ fixB (nT es) ++ fixB (4 + (bodyT es (nT es)).length), ?_⟩
  unfold fileB
  generalize fixB (4 + (bodyT es (nT es)).length) = x1
  generalize fixB (nT es) = x2
  generalize idxT es (nT es) = x3
  rw [← h]
  rw [show 4 + (bodyT es k).length = (letT ++ bodyT es k).length from by rw [List.length_append]; rfl]
  rw [show letT ++ (bodyT es k ++ (blkT es k ++ bodyF es (k + 1) j)) ++ x3 ++ x2 ++ x1 = (letT ++ bodyT es k) ++ (blkT es k ++ (bodyF es (k + 1) j ++ x3 ++ x2 ++ x1)) from by simp only [List.append_assoc]]
  exact List.drop_left
theorem file_head (es : List E) : (fileB es).take 4 = letT := by
  unfold fileB
  simp only [List.append_assoc]
  exact List.take_left (l₁ := letT)
set_option maxRecDepth 100000 in
set_option maxHeartbeats 4000000 in
theorem blocksT_walk (ao : Option Addr) (n c : Nat) (es : List E) (w : World) (hE : EntsV w ao n es) (hsm : Small es) (hnc : n ≤ c) (hc : c ≤ 9223372036854775807) (hK : Sm.WW w 1 Sm.ks) (hz0 : 1 < w.heap.size) :
    Calls Tryd.prog 8 #[.slice ao n c] w fun e w' => e = .returned (.bool true) ∧ Below w.heap.size w w' := by
  go_enter Tryd.func8, Tryd.ntmps8
  go_wp2_with fail
  refine (shownT_any w hK hz0).mono ?_
  rintro e w1 ⟨rfl, hb1⟩
  go_wp2_with fail
  refine (fit4_any ao n c es w1 (hE.below hb1 (Nat.le_refl _)) hsm (by omega)).mono ?_
  rintro e w2 ⟨v2, rfl, hown2, hb2⟩
  have hl2 := fitS_len es
  have hf2 := fitS_fit es
  have hrt2 := fitS_right es
  obtain ⟨fs, HF⟩ : ∃ fs, Hid (fitS es = fs) := ⟨_, rfl⟩
  rw [HF.out] at hown2 hl2 hf2 hrt2
  have HSM : Hid (Small fs) := right_small hrt2
  have hB2 : Below w.heap.size w w2 := hb1.trans (hb2.mono hb1.size)
  have HB2 : Hid (Below w.heap.size w w2) := hB2
  have HKK : Hid (∀ W, Below w.heap.size w W → Sm.WW W 1 Sm.ks ∧ 1 < W.heap.size) := fun W hW => ⟨hK.below hW hz0, Nat.lt_of_lt_of_le hz0 hW.size⟩
  obtain ⟨l, HL⟩ : ∃ l, Hid (fs.length = l) := ⟨_, rfl⟩
  rw [HL.out] at hown2 hl2 hf2
  clear hb1 hb2 hE hsm hB2 hK hz0 hrt2 hnc hc
  by_cases h0 : l = 0
  · obtain ⟨ao2, c2, rfl, -⟩ := own_entsV hown2 HL.out
    have h0z : ((l : Int) == 0) = true := by simp; omega
    clear h0 hf2 hown2
    go_wp2
    go_ret
    exact ⟨rfl, HB2.out⟩
  · obtain ⟨g2, c2, rfl, hE2, -, hgl2, hnc2, -⟩ := own_shapeT hown2 (Nat.pos_of_ne_zero h0)
    have h0z : ((l : Int) == 0) = false := by simp; omega
    have HFIT : Hid (fitB fs = true) := hf2 (by omega)
    have HE2 : Hid (EntsV w2 (some ⟨g2, 0, none⟩) l fs) := ⟨HL.out, fun _ => ⟨g2, 0, rfl, hE2⟩⟩
    have HC : Hid _ := tableBytes_some g2 0 l c2 fs w2 HE2.out hnc2 HFIT.out hgl2
    have hp0 : 0 < l := Nat.pos_of_ne_zero h0
    clear hf2 h0 hown2 hE2 hgl2
    go_wp2_with fail
    refine Calls.mono HC.out ?_
    rintro e w3 ⟨v3, rfl, hown3, hb3⟩
    have hfl := fileB_len HFIT.out
    obtain ⟨m, HM⟩ : ∃ m, Hid ((fileB fs).length = m) := ⟨_, rfl⟩
    rw [HM.out] at hown3 hfl
    obtain ⟨g3, c3, rfl, -, hg3, hlc3, hcm3⟩ := own_shape hown3 (by omega)
    have HBY3 : Hid (Bytes w3 (some ⟨g3, 0, none⟩) m (fileB fs)) := own_row_bytes hown3
    have HB3 : Hid (Below w.heap.size w w3) := HB2.out.trans (hb3.mono HB2.out.size)
    have HE3 : Hid (EntsV w3 (some ⟨g2, 0, none⟩) l fs) := HE2.out.below hb3 (Nat.le_refl _)
    clear hown3 hb3 HC HE2
    have hnT := nT_le HFIT.out
    have hn4 : nT fs ≤ 4 := hnT.2
    have HFL : Hid (4 + (bodyT fs (nT fs)).length + 8 ≤ m) := by show _ ≤ _; have := fileB_length fs; rw [HM.out] at this; omega
    clear hnT hfl
    go_wp2
    go_loopw [6, 7, 8, 9] (fun s6 s7 _ _ wr => ∃ k : Nat, s7 = .int .i64 (16 * (k : Int)) ∧ s6 = .int .i64 (4 + ((bodyT fs k).length : Int)) ∧ k ≤ 5 ∧ Hid (k ≤ nT fs) ∧ Hid (Below w3.heap.size w3 wr)) (fun _ s7 _ _ _ => 200 - (intOf s7).toNat)
    case atStart => exact ⟨0, rfl, by simp [bodyT], by omega, Nat.zero_le _, Below.refl _ _⟩
    case round =>
      obtain ⟨k, rfl, rfl, hk5, HKN, HBr⟩ := hrel
      have hbt := bodyT_len HFIT.out k HKN.out
      by_cases hlt : 16 * k < l
      · have hltz : 16 * (k : Int) < (l : Int) := by omega
        have hkn : k < nT fs := nT_lt.2 (by rw [HL.out]; exact hlt)
        obtain ⟨hi, hhi⟩ : ∃ hi, min l (16 * k + 16) = hi := ⟨_, rfl⟩
        have hmin : min (l : Int) (16 * (k : Int) + 16) = (hi : Int) := by omega
        have hle1 : 16 * (k : Int) ≤ (hi : Int) := by omega
        have hle2 : (hi : Int) ≤ (c2 : Int) := by omega
        have hne : ¬ (c2 = 16 * k) := by omega
        have HEV : Hid (EntsV wr (some ⟨g2, 0 + 16 * k * 4, none⟩) (hi - 16 * k) (chunk fs k)) := by
          have h1 := (HE3.out.below HBr.out (Nat.le_refl _)).drop (16 * k) (by omega)
          have h2 := h1.take (hi - 16 * k) (by omega)
          have h3 : (fs.drop (16 * k)).take (hi - 16 * k) = chunk fs k := by
            unfold chunk
            by_cases h16 : 16 * k + 16 ≤ l
            · rw [show hi - 16 * k = 16 from by omega]
            · have hl : (fs.drop (16 * k)).length = l - 16 * k := by rw [List.length_drop, HL.out]
              rw [List.take_of_length_le (by omega), List.take_of_length_le (by omega)]
          rw [h3] at h2; exact h2
        have HFC : Hid (fitB (chunk fs k) = true) := fit_chunk HFIT.out hkn
        have CB := blockBytes_some (some ⟨g2, 0 + 16 * k * 4, none⟩) (hi - 16 * k) (c2 - 16 * k) (chunk fs k) wr HEV.out (right_small (fit_all HFC.out)) HFC.out
        rw [Nat.zero_add] at CB
        have HCB : Hid _ := CB
        have hbl := blkT_len HFIT.out hkn
        obtain ⟨more, HMO⟩ := file_at hkn
        obtain ⟨A, HA⟩ : ∃ A, Hid ((bodyT fs k).length = A) := ⟨_, rfl⟩
        obtain ⟨mk, HMK⟩ : ∃ x, Hid ((blkT fs k).length = x) := ⟨_, rfl⟩
        have HBS : Hid ((bodyT fs (k + 1)).length = A + mk) := by show _ = _; rw [bodyT, List.length_append, HA.out, HMK.out]
        rw [HMK.out] at hbl
        have hfl2 : 4 + (A + mk) ≤ m := by
          have h1 := congrArg List.length HMO
          rw [List.length_drop, List.length_append, HA.out, HMK.out, HM.out] at h1
          omega
        rw [HA.out] at hbt HMO ⊢
        have HMO2 : Hid ((fileB fs).drop (4 + A) = blkT fs k ++ more) := HMO
        clear hhi CB HMO
        have hcl : m ≤ c3 := hlc3
        go_wp2_with fail
        refine Calls.mono HCB.out ?_
        rintro e w4 ⟨v4, rfl, hown4, hb4⟩
        have hown4' : w4.ownsRow wr.heap.size 5 1 v4 mk (cellsOf (blkT fs k)) := by rw [← HMK.out]; exact hown4
        obtain ⟨g4, c4, rfl, -, -, -, -⟩ := own_shape hown4' (by omega)
        have hby4 := own_row_bytes hown4'
        have HB4 : Hid (Below w3.heap.size w3 w4) := HBr.out.trans (hb4.mono HBr.out.size)
        obtain ⟨S, HS⟩ : ∃ S : ByteArray, Hid ((⟨(blkT fs k).toArray⟩ : ByteArray) = S) := ⟨_, rfl⟩
        have hcv1 : ∀ j, (convert 25 9 (.slice (some ⟨g4, 0, none⟩) mk c4)).run Tryd.prog (w4.drewN j) = .ok (.string S) (w4.drewN j) := fun j => by
          have := str_bytes c4 (bytes_kept hby4 (bel_drewN (Below.refl _ _) j) (Nat.le_refl _))
          rw [HS.out] at this; exact this
        have hcv2 : ∀ j, (convert 25 9 (.slice (some ⟨g3, 4 + A, none⟩) mk (c3 - (4 + A)))).run Tryd.prog (w4.drewN j) = .ok (.string S) (w4.drewN j) := fun j => by
          have h1 := bytes_drop (bytes_kept (bytes_kept HBY3.out HB4.out (Nat.le_refl _)) (bel_drewN (Below.refl _ w4) j) (Nat.le_refl _)) (4 + A)
          rw [HMO2.out, Nat.zero_add] at h1
          have h2 := bytes_take h1 mk (by omega)
          rw [← HMK.out, List.take_left, HMK.out] at h2
          have := str_bytes (c3 - (4 + A)) h2
          rw [HS.out] at this; exact this
        have hq1 : ¬ (m : Int) < 4 + (A : Int) + (mk : Int) := by omega
        have hq2 : 4 + (A : Int) ≤ 4 + (A : Int) + (mk : Int) := by omega
        have hq3 : 4 + (A : Int) + (mk : Int) ≤ (c3 : Int) := by omega
        have hq4 : ¬ c3 = 4 + A := by omega
        have hq5 : (4 + (A : Int)).toNat = 4 + A := by omega
        have hq6 : (4 + (A : Int) + (mk : Int)).toNat = 4 + A + mk := by omega
        have hq7 : 4 + A + mk - (4 + A) = mk := by omega
        have hq8 : (0 : Int) ≤ 4 + (A : Int) := by omega
        have hAB : (A : Int) ≤ 500000 := by omega
        have hmB : (mk : Int) ≤ 100000 := by omega
        have hw9 : IntKind.i64.wrap (4 + (A : Int) + (mk : Int)) = 4 + (A : Int) + (mk : Int) := by rw [IntKind.wrap_i64]; omega
        have hq1d : decide ((m : Int) < 4 + (A : Int) + (mk : Int)) = false := decide_eq_false hq1
        clear hown4 hown4' hby4 hb4 HCB hbl hbt hfl2 hcl
        go_wp2_with fail
        go_quiet (fail)
        go_wp2
        go_roundw
        case rel => exact ⟨k + 1, by go_num, by rw [HBS.out]; congr 1; push_cast; omega, by omega, hkn, bel_drewN HB4.out _⟩
        case measure => simp [intOf]; omega
      · have hltz : ¬ 16 * (k : Int) < (l : Int) := by omega
        have HKE : Hid (k = nT fs) := by
          show _ = _
          have h1 : ¬ k < nT fs := fun h => hlt (by have := nT_lt.1 h; rw [HL.out] at this; exact this)
          have := HKN.out
          omega
        have hfl4 : 4 + (bodyT fs k).length + 8 ≤ m := by rw [HKE.out]; exact HFL.out
        obtain ⟨A, HA⟩ : ∃ A, Hid ((bodyT fs k).length = A) := ⟨_, rfl⟩
        rw [HA.out] at hfl4 hbt ⊢
        have hcv : (convert 25 9 (.slice (some ⟨g3, 0, none⟩) 4 c3)).run Tryd.prog wr = .ok (.string ⟨#[77, 65, 82, 76]⟩) wr := by
          have h1 := str_bytes c3 (bytes_take (bytes_kept HBY3.out HBr.out (Nat.le_refl _)) 4 (by omega))
          rw [file_head] at h1; exact h1
        have hle4 : (4 : Int) ≤ (c3 : Int) := by omega
        have hge : 4 + (A : Int) + 8 ≤ (m : Int) := by omega
        have HFIN : Hid (Below w.heap.size w wr) := HB3.out.trans (HBr.out.mono HB3.out.size)
        clear hbt hfl4
        go_wp2
        go_ret
        exact ⟨rfl, HFIN.out⟩
end Go.Proofs.YtcgjhopfdpaocaaDoor
