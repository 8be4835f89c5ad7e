/-
  The statement FrameJoins, walked.
-/
import Derived.Test.YtaejcclepahefaaJoinA
import Derived.Deep.CutBlock
import Derived.Deep.DeepCutAuto
namespace Go.Proofs.Ytaejcclepahefaa
open Go.RowKit
set_option maxRecDepth 100000 in
set_option maxHeartbeats 4000000 in
theorem joins_walk (ao : Option Addr) (la ca b1 off1 : Nat) (pa : List SV) (bo : Option Addr) (lb cb b2 off2 : Nat) (pb : List SV) (at0 : Int) (w : World) (hpa : PartsAt w b1 off1 pa) (hla : pa.length = la) (hao : 0 < la → ao = some ⟨b1, off1, none⟩) (hpb : PartsAt w b2 off2 pb) (hlb : pb.length = lb) (hbo : 0 < lb → bo = some ⟨b2, off2, none⟩) (hca : la ≤ 9223372036854775807) (hcb : lb ≤ 9223372036854775807) (hat : -9223372036854775808 ≤ at0 ∧ at0 ≤ 9223372036854775807) :
    Calls Try.prog 16 #[.slice ao la ca, .slice bo lb cb, .int .i64 at0] w fun e w' => e = .returned (.bool true) ∧ Below w.heap.size w w' := by
  obtain ⟨i9, hi9, hz90, hz91, hz92⟩ := info_parts info9
  obtain ⟨i3, hi3, hz30, hz31, hz32⟩ := info_parts info3
  obtain ⟨T, HTT⟩ : ∃ T, Hid (wrap64 ((la : Int) + (lb : Int)) = T) := ⟨_, rfl⟩
  have HTL : Hid (T ≤ (la : Int) + (lb : Int)) := by show _ ≤ _; rw [← HTT.out]; exact wrap_le hca hcb
  obtain ⟨ps, hps⟩ : ∃ ps, pa ++ pb = ps := ⟨_, rfl⟩
  have HPA : Hid (PartsAt w b1 off1 pa) := hpa
  have HPB : Hid (PartsAt w b2 off2 pb) := hpb
  have HLA : Hid (pa.length = la) := hla
  have HLB : Hid (pb.length = lb) := hlb
  have HAO : Hid (0 < la → ao = some ⟨b1, off1, none⟩) := hao
  have HBO : Hid (0 < lb → bo = some ⟨b2, off2, none⟩) := hbo
  have HPL : Hid (ps.length = la + lb) := by show _ = _; rw [← hps, List.length_append, hla, hlb]
  have HPS : Hid (pa ++ pb = ps) := hps
  have HAT : Hid (-9223372036854775808 ≤ at0 ∧ at0 ≤ 9223372036854775807) := hat
  have HCA : Hid (la ≤ 9223372036854775807) := hca
  clear hpa hla hao hpb hlb hbo hca hcb hat hps
  go_enter Try.func16, Try.ntmps16
  go_wp2_with fail
  refine (shown_any w).mono ?_
  rintro e w1 ⟨rfl, hb1⟩
  have HB1 : Hid (Below w.heap.size w w1) := hb1
  obtain ⟨B, hB⟩ : ∃ B, w1.heap.size = B := ⟨_, rfl⟩
  have HBS : Hid (w.heap.size ≤ B ∧ w1.heap.size = B) := ⟨by rw [← hB]; exact hb1.size, hB⟩
  clear hb1 hB
  go_upto_block 0 with fail
  go_cut [8, 9, 10, 11] (fun s8 s9 s10 s11 wx => ∃ (i : Nat) (v9 v10 : Value) (vo : Option Addr) (vn vc : Nat), Hid (i ≤ la + lb ∧ i ≤ 40) ∧ s8 = .slice vo vn vc ∧ v9 = s9 ∧ v10 = s10 ∧ Hid (JI B ps i vo vn vc v9 v10 w wx))
  case first =>
    go_wp2_with fail
    go_loopw [8, 9, 10, 11] (fun v s9 s10 t wr => ∃ (i : Nat) (u9 u10 : Value) (vo : Option Addr) (vn vc : Nat), Hid (i ≤ la + lb ∧ i ≤ 40) ∧ v = .slice vo vn vc ∧ u9 = s9 ∧ u10 = s10 ∧ t = .int .i64 i ∧ Hid (JI B ps i vo vn vc u9 u10 w wr)) (fun _ _ _ t _ => 40 - (intOf t).toNat)
    case atStart => exact ⟨0, _, _, none, 0, 0, ⟨Nat.zero_le _, by decide⟩, rfl, rfl, rfl, rfl, ⟨⟨rfl, .inl ⟨rfl, rfl⟩⟩, ⟨rfl, .inl ⟨rfl, rfl⟩⟩, ⟨rfl, .inl ⟨rfl, rfl⟩⟩, Nat.zero_le _, HB1.out, Nat.le_of_eq HBS.out.2.symm⟩⟩
    case round =>
      obtain ⟨i, u9, u10, vo, vn, vc, HI, rfl, rfl, rfl, rfl, HJ⟩ := hrel
      clear HB1
      by_cases hlt : (i : Int) < T ∧ i < 40
      · as_aux_lemma =>
          obtain ⟨hiT, hi40⟩ := hlt
          have hi40' : (i : Int) < 40 := by omega
          have HI2 : Hid (i < la + lb ∧ i < 40) := ⟨by have := HTL.out; omega, hi40⟩
          obtain ⟨p, hp⟩ : ∃ p, ps[i]? = some p := ⟨ps[i]'(by rw [HPL.out]; exact HI2.out.1), by simp⟩
          have HCS : Hid (cutJ ps (i + 1) = cutJ ps i ++ [p.bs.take 1000]) := cutJ_succ ps i p hp
          have hi0 : (0 : Int) ≤ (i : Int) := Int.natCast_nonneg _
          by_cases hia : i < la
          · as_aux_lemma =>
              obtain rfl := HAO.out (Nat.lt_of_le_of_lt (Nat.zero_le i) hia)
              have hpp : pa[i]? = some p := by rw [← HPS.out, List.getElem?_append_left (by rw [HLA.out]; exact hia)] at hp; exact hp
              obtain ⟨po, pn, pc, pbs⟩ := p
              obtain ⟨hc1, hc2, hc3, hc4, hc5⟩ := (HPA.out.below HJ.out.bel (Nat.le_refl _)) i _ hpp
              have hia' : (i : Int) < (la : Int) := Int.ofNat_lt.2 hia
              simp only at hc1 hc2 hc3 hc4 hc5
              obtain ⟨m, hm⟩ : ∃ m, min pn 1000 = m := ⟨_, rfl⟩
              obtain ⟨hmin, hm1, hm2, hm3, hm4⟩ := minfacts1 hm hc4
              obtain ⟨ms, HMS⟩ : ∃ ms, Hid (pbs.take 1000 = ms) := ⟨_, rfl⟩
              have hby : Bytes wr po m ms := by
                have h5 := bytes_take hc2 m hm4
                rw [take_min1 hc2.1 hm, HMS.out] at h5; exact h5
              obtain ⟨K, hK⟩ : ∃ K, vn + (8 + m) = K := ⟨_, rfl⟩
              have HKB : Hid (K ≤ (i + 1) * 1008) := by show _ ≤ _; have := HJ.out.small; omega
              have HK0 : Hid (0 < K) := by show 0 < K; omega
              have HKM : Hid (K ≤ 1000000) := by show _ ≤ _; have := HKB.out; omega
              have HP := put_any ⟨vo, vn, vc, rowB (cutJ ps i)⟩ ⟨po, m, pc, ms⟩ wr (own_it HJ.out.x) hby (fine_own _ HJ.out.x) ⟨hc3, hm3, hc5⟩ (by show m ≤ 65536; omega) (by show vn ≤ 140737488250000; have := HJ.out.small; omega)
              simp only [hK] at HP
              have HPP : Hid _ := HP
              have HBY : Hid (Bytes wr po m ms) := hby
              have HW8 : Hid (wrap64 ((vn : Int) + 8) = (vn : Int) + 8 ∧ wrap64 ((vn : Int) + 8 + (m : Int)) = (K : Int)) := wsum3 hK HKM.out
              have HINC : Hid (wrap64 ((i : Int) + 1) = ((i + 1 : Nat) : Int)) := winc (Nat.lt_of_lt_of_le HI2.out.2 (by decide))
              clear HP hp hpp hc2 hc3 hc4 hc5 hm hby hK hm3 hm4 hi40
              have hT := HTT.out
              go_wp2_with fail
              clear hT
              refine Calls.mono HPP.out ?_
              rintro e w2 ⟨v2, rfl, hown, hb2⟩
              obtain ⟨g, c, rfl, q1, q2, q3, q4⟩ := own_shape hown HK0.out
              have HJ2 : Hid (JI2 B ps i (some ⟨g, 0, none⟩) K c u9 u10 w w2) := by
                have hs := HJ.out.size
                refine ⟨?_, own_below HJ.out.want hb2 (Nat.le_refl _), own_below HJ.out.ends hb2 (Nat.le_refl _), HKB.out, HJ.out.bel.trans (hb2.mono HJ.out.bel.size), Nat.le_trans hs hb2.size⟩
                rw [HCS.out, rowB_snoc, HMS.out]; exact ownsRow_mono hown hs
              have hcv := str_bS pc (bytes_kept HBY.out hb2 (Nat.le_refl _))
              have hle : i + 1 ≤ maxLen := by have := HI2.out.2; unfold maxLen; omega
              have hle2 : (i + 1) * 16 ≤ 140737488355328 := by have := HI2.out.2; omega
              have hle3 : (i + 1) * 8 ≤ 140737488355328 := by have := HI2.out.2; omega
              have HO9 : Hid ((w2.alloc (.cells #[.string (bS ms)] 9)).ownsRow B 9 1 u9 i (strC (cutJ ps i))) := own_below HJ2.out.want (bel_alloc _ _) (Nat.le_refl _)
              have HSZ : Hid (B ≤ w2.heap.size) := HJ2.out.size
              obtain ⟨w8a, w8b⟩ := HW8.out
              try clear hsub
              clear hown hb2 q1 q2 q3 q4 HPP HJ HBY hc1
              go_wp2_with (at_builtin; refine wpList_append_own _ rfl (.tmp 84) (.tmp 87) 47 rfl B 9 i9 (.string ByteArray.empty) 1 16 Try.underlying47 hi9 hz90 hz91 hz92 rfl (by decide) u9 i (strC (cutJ ps i)) rfl HO9.out ⟨w2.heap.size, 0, none⟩ 1 1 [.string (bS ms)] rfl rfl (cell_one_new _ _ _) (by simp [Value.oneCell']) hle hle2 (by have := HSZ.out; simp; omega) ?_)
              intro v9 w3 hown9 hg9 _
              have HJ3 : Hid (JI3 B ps i (some ⟨g, 0, none⟩) K c v9 u10 w w3) := HJ2.out.want_more hown9 hg9 (by rw [HCS.out, HMS.out]) HBS.out.1
              have HO3 : Hid ((w3.alloc (.cells #[.int .i64 (K : Int)] 3)).ownsRow B 3 1 u10 i (intC (endsJ ps i))) := own_below HJ3.out.ends (bel_alloc _ _) (Nat.le_refl _)
              have HS3 : Hid (B ≤ w3.heap.size) := HJ3.out.size
              clear hown9 hg9 HO9 HJ2 hcv HSZ w8a w8b
              go_wp2_with (at_builtin; refine wpList_append_own _ rfl (.tmp 89) (.tmp 92) 52 rfl B 3 i3 (.int .i64 0) 1 8 Try.underlying52 hi3 hz30 hz31 hz32 rfl (by decide) u10 i (intC (endsJ ps i)) rfl HO3.out ⟨w3.heap.size, 0, none⟩ 1 1 [.int .i64 (K : Int)] rfl rfl (cell_one_new _ _ _) (by simp [Value.oneCell']) hle hle3 (by have := HS3.out; simp; omega) ?_)
              intro v10 w4 hown10 hg10 _
              have HJ4 : Hid (JI B ps (i + 1) (some ⟨g, 0, none⟩) K c v9 v10 w w4) := HJ3.out.ends_more hown10 hg10 HBS.out.1
              clear hown10 hg10 HO3 HJ3 HS3 HCS HMS
              clear hle hle2 hle3 hm1 hm2 hmin
              have hinc := HINC.out
              go_wp2_with fail
              exact ⟨⟨i + 1, v9, v10, some ⟨g, 0, none⟩, K, c, ⟨HI2.out.1, HI2.out.2⟩, rfl, rfl, rfl, by first | rfl | rw [hinc], HJ4⟩, by first | exact meas_up HI2.out.2 | (rw [hinc]; exact meas_up HI2.out.2)⟩
          · as_aux_lemma =>
              obtain rfl := HBO.out (by have := HI2.out.1; omega)
              obtain ⟨j, hj⟩ : ∃ j, i - la = j := ⟨_, rfl⟩
              have hpp : pb[j]? = some p := by rw [← HPS.out, List.getElem?_append_right (by rw [HLA.out]; omega), HLA.out, hj] at hp; exact hp
              obtain ⟨po, pn, pc, pbs⟩ := p
              obtain ⟨hc1, hc2, hc3, hc4, hc5⟩ := (HPB.out.below HJ.out.bel (Nat.le_refl _)) j _ hpp
              have hia' : ¬ (i : Int) < (la : Int) := fun h => hia (Int.ofNat_lt.1 h)
              have HSUB : Hid (wrap64 ((i : Int) - (la : Int)) = (j : Int)) := wsubj hj (Nat.le_of_not_lt hia) (Nat.le_trans (Nat.le_of_lt HI2.out.2) (by decide))
              have hj0 : (0 : Int) ≤ (j : Int) := Int.natCast_nonneg _
              have hjl : (j : Int) < (lb : Int) := by have := HI2.out.1; omega
              simp only at hc1 hc2 hc3 hc4 hc5
              obtain ⟨m, hm⟩ : ∃ m, min pn 1000 = m := ⟨_, rfl⟩
              obtain ⟨hmin, hm1, hm2, hm3, hm4⟩ := minfacts1 hm hc4
              obtain ⟨ms, HMS⟩ : ∃ ms, Hid (pbs.take 1000 = ms) := ⟨_, rfl⟩
              have hby : Bytes wr po m ms := by
                have h5 := bytes_take hc2 m hm4
                rw [take_min1 hc2.1 hm, HMS.out] at h5; exact h5
              obtain ⟨K, hK⟩ : ∃ K, vn + (8 + m) = K := ⟨_, rfl⟩
              have HKB : Hid (K ≤ (i + 1) * 1008) := by show _ ≤ _; have := HJ.out.small; omega
              have HK0 : Hid (0 < K) := by show 0 < K; omega
              have HKM : Hid (K ≤ 1000000) := by show _ ≤ _; have := HKB.out; omega
              have HP := put_any ⟨vo, vn, vc, rowB (cutJ ps i)⟩ ⟨po, m, pc, ms⟩ wr (own_it HJ.out.x) hby (fine_own _ HJ.out.x) ⟨hc3, hm3, hc5⟩ (by show m ≤ 65536; omega) (by show vn ≤ 140737488250000; have := HJ.out.small; omega)
              simp only [hK] at HP
              have HPP : Hid _ := HP
              have HBY : Hid (Bytes wr po m ms) := hby
              have HW8 : Hid (wrap64 ((vn : Int) + 8) = (vn : Int) + 8 ∧ wrap64 ((vn : Int) + 8 + (m : Int)) = (K : Int)) := wsum3 hK HKM.out
              have HINC : Hid (wrap64 ((i : Int) + 1) = ((i + 1 : Nat) : Int)) := winc (Nat.lt_of_lt_of_le HI2.out.2 (by decide))
              clear HP hp hpp hc2 hc3 hc4 hc5 hm hby hK hm3 hm4 hi40
              have hsub := HSUB.out
              have hT := HTT.out
              go_wp2_with fail
              clear hT
              refine Calls.mono HPP.out ?_
              rintro e w2 ⟨v2, rfl, hown, hb2⟩
              obtain ⟨g, c, rfl, q1, q2, q3, q4⟩ := own_shape hown HK0.out
              have HJ2 : Hid (JI2 B ps i (some ⟨g, 0, none⟩) K c u9 u10 w w2) := by
                have hs := HJ.out.size
                refine ⟨?_, own_below HJ.out.want hb2 (Nat.le_refl _), own_below HJ.out.ends hb2 (Nat.le_refl _), HKB.out, HJ.out.bel.trans (hb2.mono HJ.out.bel.size), Nat.le_trans hs hb2.size⟩
                rw [HCS.out, rowB_snoc, HMS.out]; exact ownsRow_mono hown hs
              have hcv := str_bS pc (bytes_kept HBY.out hb2 (Nat.le_refl _))
              have hle : i + 1 ≤ maxLen := by have := HI2.out.2; unfold maxLen; omega
              have hle2 : (i + 1) * 16 ≤ 140737488355328 := by have := HI2.out.2; omega
              have hle3 : (i + 1) * 8 ≤ 140737488355328 := by have := HI2.out.2; omega
              have HO9 : Hid ((w2.alloc (.cells #[.string (bS ms)] 9)).ownsRow B 9 1 u9 i (strC (cutJ ps i))) := own_below HJ2.out.want (bel_alloc _ _) (Nat.le_refl _)
              have HSZ : Hid (B ≤ w2.heap.size) := HJ2.out.size
              obtain ⟨w8a, w8b⟩ := HW8.out
              try clear hsub
              clear hown hb2 q1 q2 q3 q4 HPP HJ HBY hc1
              go_wp2_with (at_builtin; refine wpList_append_own _ rfl (.tmp 84) (.tmp 87) 47 rfl B 9 i9 (.string ByteArray.empty) 1 16 Try.underlying47 hi9 hz90 hz91 hz92 rfl (by decide) u9 i (strC (cutJ ps i)) rfl HO9.out ⟨w2.heap.size, 0, none⟩ 1 1 [.string (bS ms)] rfl rfl (cell_one_new _ _ _) (by simp [Value.oneCell']) hle hle2 (by have := HSZ.out; simp; omega) ?_)
              intro v9 w3 hown9 hg9 _
              have HJ3 : Hid (JI3 B ps i (some ⟨g, 0, none⟩) K c v9 u10 w w3) := HJ2.out.want_more hown9 hg9 (by rw [HCS.out, HMS.out]) HBS.out.1
              have HO3 : Hid ((w3.alloc (.cells #[.int .i64 (K : Int)] 3)).ownsRow B 3 1 u10 i (intC (endsJ ps i))) := own_below HJ3.out.ends (bel_alloc _ _) (Nat.le_refl _)
              have HS3 : Hid (B ≤ w3.heap.size) := HJ3.out.size
              clear hown9 hg9 HO9 HJ2 hcv HSZ w8a w8b
              go_wp2_with (at_builtin; refine wpList_append_own _ rfl (.tmp 89) (.tmp 92) 52 rfl B 3 i3 (.int .i64 0) 1 8 Try.underlying52 hi3 hz30 hz31 hz32 rfl (by decide) u10 i (intC (endsJ ps i)) rfl HO3.out ⟨w3.heap.size, 0, none⟩ 1 1 [.int .i64 (K : Int)] rfl rfl (cell_one_new _ _ _) (by simp [Value.oneCell']) hle hle3 (by have := HS3.out; simp; omega) ?_)
              intro v10 w4 hown10 hg10 _
              have HJ4 : Hid (JI B ps (i + 1) (some ⟨g, 0, none⟩) K c v9 v10 w w4) := HJ3.out.ends_more hown10 hg10 HBS.out.1
              clear hown10 hg10 HO3 HJ3 HS3 HCS HMS
              clear hle hle2 hle3 hm1 hm2 hmin
              have hinc := HINC.out
              go_wp2_with fail
              exact ⟨⟨i + 1, v9, v10, some ⟨g, 0, none⟩, K, c, ⟨HI2.out.1, HI2.out.2⟩, rfl, rfl, rfl, by first | rfl | rw [hinc], HJ4⟩, by first | exact meas_up HI2.out.2 | (rw [hinc]; exact meas_up HI2.out.2)⟩
      · by_cases hiT : (i : Int) < T
        · have hi4 : ¬ (i : Int) < 40 := fun h => hlt ⟨hiT, Int.ofNat_lt.1 h⟩
          have hT := HTT.out
          clear hlt
          go_wp2_with fail
          go_meet
          case rel => exact ⟨i, u9, u10, vo, vn, vc, HI, rfl, rfl, rfl, HJ⟩
        · have hT := HTT.out
          clear hlt
          go_wp2_with fail
          go_meet
          case rel => exact ⟨i, u9, u10, vo, vn, vc, HI, rfl, rfl, rfl, HJ⟩
  case rest =>
    obtain ⟨i, v9, v10, vo, vn, vc, HI, rfl, rfl, rfl, HJ⟩ := hcut
    clear HB1
    have HIL : Hid (i ≤ ps.length ∧ i ≤ 40) := ⟨by rw [HPL.out]; exact HI.out.1, HI.out.2⟩
    have HSM : Hid (vn ≤ 1000000000) := by show vn ≤ _; have := HJ.out.small; have := HI.out.2; omega
    have HVL : Hid ((rowB (cutJ ps i)).length = vn) := by have := HJ.out.x.1; rw [cellsOf_length, Nat.mul_one] at this; exact this
    have HCL : Hid ((cutJ ps i).length = i) := cutJ_len ps i HIL.out.1
    obtain ⟨ko, kc, rfl⟩ := slice_of HJ.out.want
    obtain ⟨eo, ec, rfl⟩ := slice_of HJ.out.ends
    obtain ⟨R1, R2, R3⟩ := row_whole (cutJ ps i) (cutJ_small ps i)
    rw [HVL.out] at R2
    have HALL : Hid _ := all_tr ⟨vo, vn, vc, rowB (cutJ ps i)⟩ (cutJ ps i) i vn 0 wc (own_it HJ.out.x) (fine_own _ HJ.out.x) (fun q hq => (owns_in HJ.out.x q hq).2) HSM.out R1 HCL.out R2 R3
    clear R1 R2 R3 HI
    go_wp2_with fail
    refine Calls.mono HALL.out ?_
    rintro e w2 ⟨lo, lc, rfl, htr, hb2⟩
    have HTX : Hid (TR w2 wc.heap.size lo i lc (cutJ ps i)) := htr
    have HB2 : Hid (Below wc.heap.size wc w2) := hb2
    have HWS : Hid (Below w.heap.size w w2) := HJ.out.bel.trans (hb2.mono HJ.out.bel.size)
    have HXB : Hid (Bytes w2 vo vn (rowB (cutJ ps i))) := bytes_kept (own_it HJ.out.x) hb2 (Nat.le_refl _)
    have HXF : Hid (SV.fine ⟨vo, vn, vc, rowB (cutJ ps i)⟩) := fine_own (rowB (cutJ ps i)) HJ.out.x
    have HXL : Hid (∀ q, vo = some q → q.block < w2.heap.size) := fun q hq => Nat.lt_of_lt_of_le (owns_in HJ.out.x q hq).2 hb2.size
    have HX2 : Hid _ := HJ.out.x.2
    have HEN : Hid (w2.ownsRow B 3 1 (.slice eo i ec) i (intC (endsJ ps i))) := own_below HJ.out.ends hb2 (Nat.le_refl _)
    have HWA : Hid (w2.ownsRow B 9 1 (.slice ko i kc) i (strC (cutJ ps i))) := own_below HJ.out.want hb2 (Nat.le_refl _)
    clear htr hb2 HALL HJ HB2 HTT HTL HPA HPB HLA HLB HAO HBO HPL HPS HCA HBS
    go_upto_if 116 with fail
    go_cut [2] (fun s wx => ∃ r : Nat, s = .int .i64 (r : Int) ∧ w2 = wx)
    case first =>
      as_aux_lemma =>
        clear HIL HSM HVL HCL HTX HWS HXB HXF HXL HX2 HEN HWA
        by_cases hneg : at0 < 0
        · obtain ⟨r, HRR⟩ : ∃ r : Nat, Hid (-(at0 + 1) = (r : Int) ∧ r ≤ 9223372036854775807) := ⟨(-(at0 + 1)).toNat, by have := HAT.out; omega, by have := HAT.out; omega⟩
          obtain ⟨hng, hnr⟩ : wrap64 (at0 + 1) = at0 + 1 ∧ wrap64 (-(at0 + 1)) = (r : Int) := wneg HRR.out.1 HRR.out.2
          clear HRR HAT
          go_wp2_with fail
          go_meet
          case rel => exact ⟨r, by first | rfl | rw [hnr] | simp [hnr], rfl⟩
        · obtain ⟨r, rfl⟩ : ∃ r : Nat, at0 = (r : Int) := ⟨at0.toNat, by omega⟩
          clear HAT
          go_wp2_with fail
          go_meet
          case rel => exact ⟨r, rfl, rfl⟩
    case rest =>
      obtain ⟨r, rfl, rfl⟩ := hcut
      clear HAT
      obtain ⟨k, hrem, HK⟩ : ∃ k : Nat, (r : Int) % ((i : Int) + 1) = (k : Int) ∧ Hid (k ≤ i) := ⟨r % (i + 1), modcast1 r i, Nat.le_of_lt_succ (Nat.mod_lt _ (Nat.succ_pos _))⟩
      have hinc1 : wrap64 ((i : Int) + 1) = (i : Int) + 1 := (winc (Nat.lt_of_le_of_lt HIL.out.2 (by decide))).trans (by simp)
      have hnz : ¬ (i : Int) + 1 = 0 := fun h => by have h5 : (0 : Int) ≤ (i : Int) := Int.natCast_nonneg i; clear hinc1 hrem; omega
      go_upto_if 126 with fail
      simp only [hrem]
      clear hrem hinc1 hnz
      obtain ⟨C, hC⟩ : ∃ C, (rowB (cutJ ps k)).length = C := ⟨_, rfl⟩
      have HC : Hid ((rowB (cutJ ps k)).length = C) := hC
      clear hC
      go_cut [18] (fun s wx => s = .int .i64 (C : Int) ∧ w2 = wx)
      case first =>
        as_aux_lemma =>
          clear HSM HVL HCL HTX HWS HXB HXF HXL HX2 HWA
          rcases Nat.eq_zero_or_pos k with hk | hk
          · have hC0 : C = 0 := by rw [← HC.out, hk]; simp [cutJ, rowB]
            subst hC0
            have hkk : ¬ (0 : Int) < (k : Int) := by omega
            clear HIL HEN HK HC hk
            go_wp2_with fail
            go_meet
            case rel => exact ⟨rfl, rfl⟩
          · obtain ⟨k1, rfl⟩ : ∃ k1, k = k1 + 1 := ⟨k - 1, by omega⟩
            obtain ⟨ge, rfl, hce⟩ := int_here HEN.out (endsJ_at ps i k1 HK.out)
            rw [HC.out] at hce
            have hkk : (0 : Int) < ((k1 + 1 : Nat) : Int) := by omega
            have hk10 : (0 : Int) ≤ (k1 : Int) := Int.natCast_nonneg _
            have hk1i : (k1 : Int) < (i : Int) := Int.ofNat_lt.2 HK.out
            have hwk : wrap64 (k1 : Int) = (k1 : Int) := wid (by have h5 := HK.out; have h6 := HIL.out.2; clear hce; omega)
            have hwk2 : wrap64 (((k1 + 1 : Nat) : Int) - 1) = (k1 : Int) := by rw [show (((k1 + 1 : Nat) : Int) - 1) = (k1 : Int) by clear hwk; omega]; exact hwk
            have hwk3 : wrap64 ((k1 : Int) + 1 - 1) = (k1 : Int) := by rw [show ((k1 : Int) + 1 - 1) = (k1 : Int) by clear hwk hwk2; omega]; exact hwk
            clear HIL HEN HK HC hk
            go_wp2_with fail
            go_meet
            case rel => exact ⟨rfl, rfl⟩
      case rest =>
        obtain ⟨rfl, rfl⟩ := hcut
        clear HEN
        obtain ⟨n2, hn2⟩ : ∃ n, i - k = n := ⟨_, rfl⟩
        have HN2 : Hid (i - k = n2) := hn2
        clear hn2
        have HD : Hid (((cutJ ps i).drop k).length = n2) := by show _ = _; rw [List.length_drop, HCL.out]; exact HN2.out
        have HKL : Hid ((cutJ ps k).length = k) := cutJ_len ps k (Nat.le_trans HK.out HIL.out.1)
        have HP : Hid ((rowB (cutJ ps i)).take C = rowB (cutJ ps k) ∧ (rowB (cutJ ps i)).drop C = rowB ((cutJ ps i).drop k) ∧ C ≤ vn) := by
          have h5 := row_part ps i k HK.out
          rw [HC.out, HVL.out] at h5; exact h5
        have HQ : Hid _ := row_whole (cutJ ps k) (cutJ_small ps k)
        have HS : Hid _ := row_whole ((cutJ ps i).drop k) (fun b hb => cutJ_small ps i b (List.mem_of_mem_drop hb))
        go_upto_region 28 with fail
        go_cut [20, 22] (fun s t wx => ∃ lo1 lc1, s = .slice lo1 k lc1 ∧ t = .int .i64 0 ∧ Hid (TR wx w2.heap.size lo1 k lc1 (cutJ ps k)) ∧ Hid (Below w2.heap.size w2 wx))
        case first =>
          as_aux_lemma =>
            cases vo with
            | none =>
              obtain ⟨rfl, rfl⟩ : vn = 0 ∧ vc = 0 := by
                rcases HX2.out with ⟨e1, _⟩ | ⟨g2, cap, cur, e1, _⟩
                · cases e1; exact ⟨rfl, rfl⟩
                · cases e1
              obtain rfl : C = 0 := Nat.le_zero.1 HP.out.2.2
              have HA1 : Hid _ := all_tr ⟨none, 0, 0, rowB (cutJ ps k)⟩ (cutJ ps k) k 0 0 w2 (by have h5 := bytes_take HXB.out 0 (Nat.le_refl _); rw [HP.out.1] at h5; exact h5) HXF.out HXL.out (by show 0 ≤ 1000000000; decide) HQ.out.1 HKL.out (HQ.out.2.1.trans HC.out) HQ.out.2.2
              clear HTX HWS HXB HXF HXL HX2 HWA HN2 HD HKL HP HQ HS HSM HVL HCL HK HIL HC
              go_wp2_with fail
              refine Calls.mono HA1.out ?_
              rintro e w3 ⟨lo1, lc1, rfl, htr1, hb3⟩
              have HT1 : Hid _ := htr1
              have HB3 : Hid _ := hb3
              clear htr1 hb3 HA1
              go_wp2_with fail
              go_meet
              case rel => exact ⟨lo1, lc1, rfl, rfl, HT1, HB3⟩
            | some ad =>
              obtain ⟨g, off, sp⟩ := ad
              obtain ⟨rfl, rfl⟩ : off = 0 ∧ sp = none := by
                rcases HX2.out with ⟨e1, _⟩ | ⟨g2, cap, cur, e1, _⟩
                · cases e1
                · cases e1; exact ⟨rfl, rfl⟩
              have hC0 : (0 : Int) ≤ (C : Int) := Int.natCast_nonneg _
              have hC2 : (C : Int) ≤ (vc : Int) := Int.ofNat_le.2 (Nat.le_trans HP.out.2.2 HXF.out.2.1)
              have HA1 : Hid _ := all_tr ⟨some ⟨g, 0, none⟩, C, vc, rowB (cutJ ps k)⟩ (cutJ ps k) k C 0 w2 (by have h5 := bytes_take HXB.out C HP.out.2.2; rw [HP.out.1] at h5; exact h5) ⟨(fun h => by cases h), Nat.le_trans HP.out.2.2 HXF.out.2.1, HXF.out.2.2⟩ HXL.out (Nat.le_trans HP.out.2.2 HSM.out) HQ.out.1 HKL.out (HQ.out.2.1.trans HC.out) HQ.out.2.2
              clear HTX HWS HXB HXF HXL HX2 HWA HN2 HD HKL HP HQ HS HSM HVL HCL HK HIL HC
              go_wp2_with fail
              refine Calls.mono HA1.out ?_
              rintro e w3 ⟨lo1, lc1, rfl, htr1, hb3⟩
              have HT1 : Hid _ := htr1
              have HB3 : Hid _ := hb3
              clear htr1 hb3 HA1 hC0 hC2
              go_wp2_with fail
              go_meet
              case rel => exact ⟨lo1, lc1, rfl, rfl, HT1, HB3⟩
        case rest =>
          obtain ⟨lo1, lc1, rfl, rfl, HT1, HB3⟩ := hcut
          obtain ⟨w3, hw3⟩ : ∃ W, W = wc := ⟨_, rfl⟩
          subst hw3
          have HSM2 : Hid (vn - C ≤ 1000000000) := Nat.le_trans (Nat.sub_le _ _) HSM.out
          have HLN : Hid ((rowB ((cutJ ps i).drop k)).length = vn - C) := by show _ = _; rw [← HP.out.2.1, List.length_drop, HVL.out]
          go_upto_region 29 with fail
          go_cut [23, 25] (fun s t wx => ∃ lo2 lc2, s = .slice lo2 n2 lc2 ∧ t = .int .i64 0 ∧ Hid (TR wx w3.heap.size lo2 n2 lc2 ((cutJ ps i).drop k)) ∧ Hid (Below w3.heap.size w3 wx))
          case first =>
            as_aux_lemma =>
              cases vo with
              | none =>
                obtain ⟨rfl, rfl⟩ : vn = 0 ∧ vc = 0 := by
                  rcases HX2.out with ⟨e1, _⟩ | ⟨g2, cap, cur, e1, _⟩
                  · cases e1; exact ⟨rfl, rfl⟩
                  · cases e1
                obtain rfl : C = 0 := Nat.le_zero.1 HP.out.2.2
                have HA1 : Hid _ := all_tr ⟨none, 0, 0, rowB ((cutJ ps i).drop k)⟩ ((cutJ ps i).drop k) n2 0 0 w3 (by have h5 := bytes_kept HXB.out HB3.out (Nat.le_refl _); rw [← HP.out.2.1, List.drop_zero]; exact h5) HXF.out (fun q hq => by cases hq) (by show 0 ≤ 1000000000; decide) HS.out.1 HD.out (HS.out.2.1.trans HLN.out) HS.out.2.2
                clear HTX HWS HXB HXF HXL HX2 HWA HN2 HD HKL HP HQ HS HSM HVL HCL HK HIL HC HSM2 HLN HT1 HB3
                go_wp2_with fail
                refine Calls.mono HA1.out ?_
                rintro e w4 ⟨lo2, lc2, rfl, htr1, hb3⟩
                have HT2 : Hid _ := htr1
                have HB4 : Hid _ := hb3
                clear htr1 hb3 HA1
                go_wp2_with fail
                go_meet
                case rel => exact ⟨lo2, lc2, rfl, rfl, HT2, HB4⟩
              | some ad =>
                obtain ⟨g, off, sp⟩ := ad
                obtain ⟨rfl, rfl⟩ : off = 0 ∧ sp = none := by
                  rcases HX2.out with ⟨e1, _⟩ | ⟨g2, cap, cur, e1, _⟩
                  · cases e1
                  · cases e1; exact ⟨rfl, rfl⟩
                have hC0 : (0 : Int) ≤ (C : Int) := Int.natCast_nonneg _
                have hC1 : (C : Int) ≤ (vn : Int) := Int.ofNat_le.2 HP.out.2.2
                have HVC : Hid (vn ≤ vc ∧ vc ≤ 9223372036854775807 ∧ C ≤ vn) := ⟨HXF.out.2.1, HXF.out.2.2, HP.out.2.2⟩
                have hC2 : (vn : Int) ≤ (vc : Int) := Int.ofNat_le.2 HVC.out.1
                obtain ⟨nx, hnx⟩ : ∃ a, (if vc = C then some (⟨g, 0, none⟩ : Addr) else some ⟨g, C, none⟩) = a := ⟨_, rfl⟩
                have HA1 : Hid (Calls Try.prog 48 #[.slice nx (vn - C) (vc - C)] w3 fun e w' => ∃ lo lc, e = .returned (.tuple #[.slice lo n2 lc, .int .i64 ((vn - C : Nat) : Int), .int .i64 0]) ∧ TR w' w3.heap.size lo n2 lc ((cutJ ps i).drop k) ∧ Below w3.heap.size w3 w') := by
                  refine all_tr ⟨nx, vn - C, vc - C, rowB ((cutJ ps i).drop k)⟩ ((cutJ ps i).drop k) n2 (vn - C) 0 w3 ?_ ⟨?_, (by show vn - C ≤ vc - C; have := HVC.out; omega), (by show vc - C ≤ 9223372036854775807; have := HVC.out; omega)⟩ ?_ HSM2.out HS.out.1 HD.out (HS.out.2.1.trans HLN.out) HS.out.2.2
                  · have h5 := bytes_drop (bytes_kept HXB.out HB3.out (Nat.le_refl _)) C
                    rw [HP.out.2.1, Nat.zero_add] at h5
                    have hlen := HLN.out
                    show Bytes w3 nx (vn - C) _
                    rw [← hnx]
                    split
                    · have e0 : vn - C = 0 := by have := HVC.out; omega
                      rw [e0] at hlen ⊢
                      exact ⟨hlen, fun i c hi => by have h7 := (List.getElem?_eq_some_iff.1 hi).1; simp only at h7; rw [hlen] at h7; exact absurd h7 (Nat.not_lt_zero _)⟩
                    · exact h5
                  · intro h; simp only at h; rw [← hnx] at h; split at h <;> cases h
                  · intro q hq
                    have h6 := HXL.out ⟨g, 0, none⟩ rfl
                    simp only at hq h6
                    rw [← hnx] at hq
                    split at hq <;> cases hq <;> exact Nat.lt_of_lt_of_le h6 HB3.out.size
                clear HTX HWS HXB HXF HXL HX2 HWA HN2 HD HKL HP HQ HS HSM HVL HCL HK HIL HC HSM2 HLN HT1 HB3 HVC
                go_wp2_with fail
                refine Calls.mono HA1.out ?_
                rintro e w4 ⟨lo2, lc2, rfl, htr1, hb3⟩
                have HT2 : Hid _ := htr1
                have HB4 : Hid _ := hb3
                clear htr1 hb3 HA1 hC0 hC2 hC1 hnx
                go_wp2_with fail
                go_meet
                case rel => exact ⟨lo2, lc2, rfl, rfl, HT2, HB4⟩
          case rest =>
            obtain ⟨lo2, lc2, rfl, rfl, HT2, HB4⟩ := hcut
            obtain ⟨w4, hw4⟩ : ∃ W, W = wc := ⟨_, rfl⟩
            subst hw4
            have HB24 : Hid (Below w2.heap.size w2 w4) := HB3.out.trans (HB4.out.mono HB3.out.size)
            have hw3 : (i : Int) - (k : Int) = (n2 : Int) := by have h5 := HK.out; have h6 := HN2.out; omega
            have hw2 : wrap64 (n2 : Int) = (n2 : Int) := wid (by have h5 := HIL.out.2; have h6 := HN2.out; clear hw3; omega)
            clear HSM2 HLN HP HQ HS HXB HXF HXL HX2 HSM HVL HC HKL HD
            go_wp2_with fail
            clear hw2 hw3
            go_loopw [26] (fun a wr => ∃ (j : Nat), Hid (j ≤ i) ∧ a = .int .i64 j ∧ Hid (Below w4.heap.size w4 wr)) (fun a _ => i - (intOf a).toNat)
            case atStart => exact ⟨0, Nat.zero_le _, rfl, Below.refl _ _⟩
            case round =>
              obtain ⟨j, HJL, rfl, HWR⟩ := hrel
              have HB9 : Hid (Below w2.heap.size w2 wr) := HB24.out.trans (HWR.out.mono HB24.out.size)
              by_cases hji : j < i
              · obtain ⟨bd, hbd⟩ : ∃ bd, (cutJ ps i)[j]? = some bd := ⟨(cutJ ps i)[j]'(by rw [HCL.out]; exact hji), by simp⟩
                obtain ⟨gl, xo, xn, xc, rfl, hcx, hbx⟩ := (HTX.out.below HB9.out (Nat.le_refl _)).here hbd
                obtain ⟨gk, rfl, hck⟩ := str_here (own_below HWA.out HB9.out (Nat.le_refl _)) hbd
                have cv1 : ∀ kk, (convert 28 9 (.slice xo xn xc)).run Try.prog (wr.drewN kk) = .ok (.string (bS bd)) (wr.drewN kk) := fun kk => str_bS _ (bytes_drewN kk hbx)
                have hji' : (j : Int) < (i : Int) := Int.ofNat_lt.2 hji
                have hj0 : (0 : Int) ≤ (j : Int) := Int.natCast_nonneg _
                have HINC : Hid (wrap64 ((j : Int) + 1) = ((j + 1 : Nat) : Int)) := winc (Nat.lt_of_lt_of_le hji (Nat.le_trans HIL.out.2 (by decide)))
                have HJI : Hid (j < i) := hji
                clear hbx hji
                by_cases hjk : j < k
                · as_aux_lemma =>
                    obtain ⟨gp, yo, yn, yc, rfl, hcy, hby⟩ := ((HT1.out.below HB4.out (Nat.le_refl _)).below HWR.out (Nat.le_refl _)).here (((part_at ps i k j HK.out).1 hjk).trans hbd)
                    have cv2 : ∀ kk, (convert 28 9 (.slice yo yn yc)).run Try.prog (wr.drewN kk) = .ok (.string (bS bd)) (wr.drewN kk) := fun kk => str_bS _ (bytes_drewN kk hby)
                    have hjk' : (j : Int) < (k : Int) := Int.ofNat_lt.2 hjk
                    have hjk2 : ¬ (k : Int) ≤ (j : Int) := by omega
                    have hjk3 : decide ((k : Int) ≤ (j : Int)) = false := by simp; omega
                    clear hby hbd hjk HTX HWA HT1 HT2 HB24 HWS HK HIL HCL HN2 HB3 HB4 HB9 HJL
                    go_wp2_with fail
                    go_quiet (fail)
                    have HW2 : Hid (Below w4.heap.size w4 (wr.drewN nq)) := bel_drewN HWR.out nq
                    have hinc := HINC.out
                    clear cv1 cv2 hcx hck hcy hjk' hjk2 hjk3 hji' hj0
                    go_wp2_with fail
                    exact ⟨⟨j + 1, HJI.out, by first | rfl | rw [hinc], HW2⟩, by first | exact meas_up HJI.out | (rw [hinc]; exact meas_up HJI.out)⟩
                · as_aux_lemma =>
                    obtain ⟨j2, hj2⟩ : ∃ j2, j - k = j2 := ⟨_, rfl⟩
                    have hq5 := ((part_at ps i k j HK.out).2 (Nat.le_of_not_lt hjk) (by rw [HCL.out]; exact HK.out)).trans hbd
                    rw [hj2] at hq5
                    obtain ⟨gp, yo, yn, yc, rfl, hcy, hby⟩ := (HT2.out.below HWR.out (Nat.le_refl _)).here hq5
                    have cv2 : ∀ kk, (convert 28 9 (.slice yo yn yc)).run Try.prog (wr.drewN kk) = .ok (.string (bS bd)) (wr.drewN kk) := fun kk => str_bS _ (bytes_drewN kk hby)
                    have hjk2 : (k : Int) ≤ (j : Int) := by omega
                    have hs1 : (j : Int) - (k : Int) = (j2 : Int) := by omega
                    have hj20 : (0 : Int) ≤ (j2 : Int) := by omega
                    have hj2n : (j2 : Int) < (n2 : Int) := by have h5 := HN2.out; have h6 := HK.out; omega
                    have hw5 : wrap64 (j2 : Int) = (j2 : Int) := wid (by have h5 := HIL.out.2; omega)
                    clear hby hbd hq5 hj2 hjk HTX HWA HT1 HT2 HB24 HWS HK HIL HCL HN2 HB3 HB4 HB9 HJL
                    go_wp2_with fail
                    go_quiet (fail)
                    have HW2 : Hid (Below w4.heap.size w4 (wr.drewN nq)) := bel_drewN HWR.out nq
                    have hinc := HINC.out
                    clear cv1 cv2 hcx hck hcy hw5 hs1 hj20 hj2n hjk2 hji' hj0
                    go_wp2_with fail
                    exact ⟨⟨j + 1, HJI.out, by first | rfl | rw [hinc], HW2⟩, by first | exact meas_up HJI.out | (rw [hinc]; exact meas_up HJI.out)⟩
              · have hji' : ¬ (j : Int) < (i : Int) := fun h => hji (Int.ofNat_lt.1 h)
                have HBF : Hid (Below w.heap.size w wr) := HWS.out.trans (HB9.out.mono HWS.out.size)
                clear hji HTX HWA HT1 HT2 HB24 HWS HK HIL HCL HN2 HB3 HB4 HB9 HJL
                go_wp2_with fail
                go_ret
                exact ⟨rfl, HBF.out⟩
end Go.Proofs.Ytaejcclepahefaa
