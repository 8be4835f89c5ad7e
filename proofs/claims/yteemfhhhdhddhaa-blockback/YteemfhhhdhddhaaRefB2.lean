/-
  The document's answer for the block of a list: a contract over this translation.
-/
import Derived.Test.YteemfhhhdhddhaaRefB
namespace Go.Proofs.Yteemfhhhdhddhaa
open Go.RowKit Go.Sort Go.Shelf
set_option linter.unusedSectionVars false
variable [Inhabited E] [DecidableEq E]
def bStr (bs : List UInt8) : ByteArray := ⟨bs.toArray⟩
theorem strB_bStr (bs : List UInt8) : strB (bStr bs) = bs := strB_mk bs
theorem size_bStr (bs : List UInt8) : (bStr bs).size = bs.length := by rw [← strB_length, strB_bStr]
theorem bStr_add (a b : List UInt8) : bStr a ++ bStr b = bStr (a ++ b) := by
  apply ByteArray.ext
  simp [bStr, ByteArray.data_append]
def sharedN (es : List E) (i : Nat) : Nat := comN (strB (aheadK es i)) (strB es[i]!.key)
theorem bel_of_drew {w w' : World} (h : ∃ q, w' = w.drewN q) : Below w.heap.size w w' := by
  obtain ⟨q, rfl⟩ := h
  exact bel_drewN (Below.refl _ _) q
set_option maxRecDepth 100000 in
set_option maxHeartbeats 8000000 in
theorem refBlock_some (ao : Option Addr) (n c : Nat) (es : List E) (w : World) (hE : EntsV w ao n es) (hsm : Small es) (hf : fitB es = true) :
    Calls Try.prog 39 #[.slice ao n c] w fun e w' => e = .returned (.tuple #[.string (bStr (blockB es)), .int .i64 0]) ∧ Below w.heap.size w w' := by
  have hfit := hf
  unfold fitB at hfit
  simp only [Bool.and_eq_true, decide_eq_true_eq] at hfit
  obtain ⟨⟨⟨hn1, hn64⟩, hall⟩, hsrt⟩ := hfit
  have hln := hE.1
  have CF := refFit_any ao n c es w hE hsm (by omega)
  rw [hf] at CF
  have HCF : Hid _ := CF
  have HE : Hid _ := hE
  have HALL : Hid _ := hall
  have HLN : Hid (es.length = n) := hln
  rw [hln] at hn1 hn64
  have hbody := bodyB_len es (fun e he => by rw [List.all_eq_true] at hall; exact hall e he)
  have HBODY : Hid _ := hbody
  obtain ⟨out, HOUT⟩ : ∃ out, Hid (blockB es = out) := ⟨_, rfl⟩
  rw [HOUT.out]
  clear CF hE hsm hall hsrt hf hbody hln
  go_enter Try.func39, Try.ntmps39
  go_wp2_with fail
  refine Calls.mono HCF.out ?_
  rintro e w1 ⟨rfl, hb1⟩
  have HB1 : Hid _ := hb1
  clear hb1 HCF
  go_wp2
  go_loopw [5, 6, 7, 8, 9, 10] (fun s5 s6 s7 x _ _ wr => ∃ i : Nat, x = .int .i64 i ∧ i ≤ n ∧ s5 = .string (bStr (bodyB es i)) ∧ s6 = .string (bStr (placesB es i)) ∧ s7 = .int .i64 ((i + 7) / 8 : Nat) ∧ Hid (Below w.heap.size w wr)) (fun _ _ _ x _ _ _ => n - (intOf x).toNat)
  case atStart => exact ⟨0, rfl, by omega, rfl, rfl, rfl, HB1⟩
  case round =>
    obtain ⟨i, rfl, hin, rfl, rfl, rfl, HB⟩ := hrel
    have hbl := HBODY.out i (by rw [HLN.out]; omega)
    have hpl := placesB_len es i
    rw [← size_bStr] at hbl hpl
    have HSB : Hid (strB (bStr (bodyB es i)) = bodyB es i) := strB_bStr _
    have HSP : Hid (strB (bStr (placesB es i)) = placesB es i) := strB_bStr _
    obtain ⟨sb, HS⟩ : ∃ s, Hid (bStr (bodyB es i) = s) := ⟨_, rfl⟩
    obtain ⟨sp, HP⟩ : ∃ s, Hid (bStr (placesB es i) = s) := ⟨_, rfl⟩
    rw [HS.out] at hbl HSB ⊢
    rw [HP.out] at hpl HSP ⊢
    obtain ⟨q, hq⟩ : ∃ q, q = (i + 7) / 8 := ⟨_, rfl⟩
    rw [← hq] at hpl ⊢
    have hq9 : q ≤ 9 := by omega
    have hspz : sp.size ≤ 100 := by omega
    have hsbz : sb.size ≤ 100000 := by omega
    have HQ : Hid _ := hq
    clear hq hbl hpl
    by_cases hlt : i < n
    · have hltz : (i : Int) < (n : Int) := by omega
      obtain ⟨b, off, hao, hEn⟩ := HE.out.2 (by omega)
      obtain ⟨k0, v0, d0, q0, HX⟩ : ∃ k0 v0 d0 q0, Hid (es[i]! = E.mk k0 v0 d0 q0) := ⟨_, _, _, _, rfl⟩
      have hri := take_right HALL.out i (by rw [HLN.out]; omega)
      rw [HX.out] at hri
      obtain ⟨hk0, hv0, qn, hqn, hqn1, hqn2⟩ := right_parts hri
      simp only at hk0 hv0 hqn
      subst hqn
      have HCELL : Hid (∀ W, Below w.heap.size w W → W.cell? ⟨b, off + i * 4, none⟩ = some (.string k0) ∧ W.cell? ⟨b, off + i * 4 + 1, none⟩ = some (.string v0) ∧ W.cell? ⟨b, off + i * 4 + 2, none⟩ = some (.bool d0) ∧ W.cell? ⟨b, off + i * 4 + 3, none⟩ = some (.int .i64 (qn : Int))) := by
        show ∀ _, _
        intro W hW
        exact ents_four (hEn.below hW (Nat.le_refl _)) i (by rw [HLN.out]; omega) HX.out
      have HENN : Hid _ := hEn
      subst hao
      have hcn := comN_le (strB (aheadK es i)) (strB k0)
      have HSH : Hid (sharedN es i = comN (strB (aheadK es i)) (strB k0)) := by show _ = _; rw [sharedN, HX.out]
      obtain ⟨sh, HSHN⟩ : ∃ s, Hid (comN (strB (aheadK es i)) (strB k0) = s) := ⟨_, rfl⟩
      rw [HSHN.out] at hcn
      rw [strB_length] at hcn
      have hshk : sh ≤ k0.size := by have := hcn.2; rw [strB_length] at this; exact this
      have hshz : (sh : Int) ≤ (k0.size : Int) := by omega
      have hshw : IntKind.u64.wrap (sh : Int) = sh := by rw [IntKind.wrap_u64]; omega
      have hqw : IntKind.u64.wrap (qn : Int) = qn := by rw [IntKind.wrap_u64]; omega
      have hsbw : IntKind.u32.wrap (sb.size : Int) = sb.size := by rw [IntKind.wrap_u32]; omega
      clear hEn hri hcn
      go_upto_if 23 with fail
      go_cut [6, 7, 9] (fun s6 s7 s9 wx => s6 = .string (bStr (placesB es (i + 1))) ∧ s7 = .int .i64 ((i + 1 + 7) / 8 : Nat) ∧ s9 = .int .i64 sh ∧ Hid (Below w.heap.size w wx))
      case first =>
        by_cases h8 : i % 8 = 0
        · have h8z : ((i : Int) % 8 == 0) = true := by simp; omega
          have HPL : Hid (placesB es (i + 1) = placesB es i ++ fixB sb.size) := by show _ = _; rw [placesB, if_pos h8, ← HS.out, size_bStr]
          have hsh0 : sh = 0 := by
            rw [← HSHN.out]
            unfold aheadK
            rw [if_pos h8]
            rfl
          subst hsh0
          rw [h8z]
          go_wp2_with fail
          refine (refPutFixed_any sp sb.size _ (by omega) (by omega)).mono ?_
          rintro e w2 ⟨rfl, hb2⟩
          have HB2 : Hid (Below w.heap.size w w2) := HB.out.trans (hb2.mono HB.out.size)
          clear hb2
          rw [HSP.out, ← HPL.out]
          go_wp2
          go_meet
          case rel => exact ⟨rfl, by congr 1; have := HQ.out; omega, rfl, HB2⟩
        · have h8z : ((i : Int) % 8 == 0) = false := by simp; omega
          have HPL : Hid (placesB es (i + 1) = placesB es i) := by show _ = _; rw [placesB, if_neg h8]
          obtain ⟨k1, v1, d1, q1, HX1⟩ : ∃ k0 v0 d0 q0, Hid (es[i - 1]! = E.mk k0 v0 d0 q0) := ⟨_, _, _, _, rfl⟩
          obtain ⟨c0, -, -, -⟩ := HCELL.out wr HB.out
          obtain ⟨g0, -, -, -⟩ := ents_four (Ents.below HENN.out HB.out (Nat.le_refl _)) (i - 1) (by rw [HLN.out]; omega) HX1.out
          obtain ⟨j, hj⟩ : ∃ j, i = j + 1 := ⟨i - 1, by omega⟩
          have hj1 : i - 1 = j := by omega
          rw [hj1] at g0
          have hjz : (i : Int) - 1 = (j : Int) := by omega
          have hjlt : (j : Int) < (n : Int) := by omega
          have HAK : Hid (aheadK es i = k1) := by show _ = _; unfold aheadK; rw [if_neg h8, HX1.out]
          have hk1 : k1.size ≤ 128 := by
            have := take_right HALL.out (i - 1) (by rw [HLN.out]; omega)
            rw [HX1.out] at this
            exact (right_parts this).1
          have CC := fun w => refCommon_any k1 k0 w (by omega)
          have hsh2 := HSHN.out
          rw [HAK.out] at hsh2
          rw [hsh2] at CC
          have HJ : Hid _ := hj
          clear hj hj1 hsh2
          rw [h8z]
          go_wp2_with fail
          go_quiet ((go_at_call 63; exact Calls.quiet_of (CC _)))
          have HB2 : Hid (Below w.heap.size w (wr.drewN nq)) := bel_drewN HB.out nq
          clear CC c0 g0
          go_wp2
          go_meet
          case rel => exact ⟨by rw [HPL.out, HP.out], by congr 1; have := HQ.out; omega, rfl, HB2⟩
      case rest =>
        obtain ⟨rfl, rfl, rfl, HBC⟩ := hcut
        obtain ⟨sp2, HP2⟩ : ∃ s, Hid (bStr (placesB es (i + 1)) = s) := ⟨_, rfl⟩
        obtain ⟨qq, HQQ⟩ : ∃ s, Hid ((i + 1 + 7) / 8 = s) := ⟨_, rfl⟩
        rw [HP2.out, HQQ.out]
        clear HQ HP HSP
        go_wp2_with fail
        refine (refPut_any sb sh _ (by omega) (by omega)).mono ?_
        rintro e w3 ⟨rfl, hb3⟩
        have HB3 : Hid (Below w.heap.size w w3) := HBC.out.trans (hb3.mono HBC.out.size)
        have hz3 : (bStr (strB sb ++ putB sh)).size ≤ 100100 := by
          have := putB_le sh
          rw [size_bStr, List.length_append, strB_length]; omega
        have HX3 : Hid (strB (bStr (strB sb ++ putB sh)) = strB sb ++ putB sh) := strB_bStr _
        obtain ⟨s3, HS3⟩ : ∃ s, Hid (bStr (strB sb ++ putB sh) = s) := ⟨_, rfl⟩
        have HS3' : Hid ((⟨(strB sb ++ putB sh).toArray⟩ : ByteArray) = s3) := HS3
        rw [HS3'.out]
        rw [HS3.out] at hz3 HX3
        clear hb3
        obtain ⟨c0, -, -, -⟩ := HCELL.out w3 HB3.out
        have hks : (k0.extract sh k0.size).size ≤ 128 := by rw [ByteArray.size_extract]; omega
        go_wp2_with fail
        refine (refPutText_any s3 (k0.extract sh k0.size) _ (by omega) (by omega)).mono ?_
        rintro e w4 ⟨rfl, hb4⟩
        have HB4 : Hid (Below w.heap.size w w4) := HB3.out.trans (hb4.mono HB3.out.size)
        obtain ⟨bs4, HBS4⟩ : ∃ b : List UInt8, Hid (strB s3 ++ textB (strB (k0.extract sh k0.size)) = b) := ⟨_, rfl⟩
        have hz4 : (bStr bs4).size ≤ 100300 := by
          have := textB_len (strB (k0.extract sh k0.size))
          rw [strB_length] at this
          rw [size_bStr, ← HBS4.out, List.length_append, strB_length]; omega
        rw [HBS4.out]
        have HBP : Hid (bs4 = bodyB es i ++ (putB sh ++ textB ((strB k0).drop sh))) := by show _ = _; rw [← HBS4.out, HX3.out, HSB.out, strB_from, List.append_assoc]
        obtain ⟨s4, HS4⟩ : ∃ s, Hid (bStr bs4 = s) := ⟨_, rfl⟩
        have HS4' : Hid ((⟨bs4.toArray⟩ : ByteArray) = s4) := HS4
        rw [HS4'.out]
        rw [HS4.out] at hz4
        clear hb4 c0 hks HBS4 HX3 HS3 HS3' hz3
        cases d0 with
        | true =>
          obtain ⟨c0, c1, c2, c3⟩ := HCELL.out w4 HB4.out
          have hcv : (convert 24 9 (.slice (some ⟨w4.heap.size, 0, none⟩) 1 1)).run Try.prog (w4.alloc (.cells #[.int .u8 1] 5)).drew = .ok (.string ⟨#[1]⟩) (w4.alloc (.cells #[.int .u8 1] 5)).drew := str_bytes 1 (bytes_drew1 (bytes_one w4 1))
          have hc3 : (w4.alloc (.cells #[.int .u8 1] 5)).drew.cell? ⟨b, off + i * 4 + 3, none⟩ = some (.int .i64 (qn : Int)) := bel_cell (Below.drew (bel_alloc w4 _)) (Nat.le_refl _) c3
          have hsz : s4.size + 1 ≤ 9223372036854775807 := by omega
          have HPUT : Hid (∀ W, Calls Try.prog 51 #[.string (s4 ++ ⟨#[1]⟩), .int .u64 (qn : Int)] W fun e w' => e = .returned (.string (bStr (bs4 ++ (1 :: putB qn)))) ∧ Below W.heap.size W w') := by
            show ∀ _, _
            intro W
            have h1 : strB (s4 ++ ⟨#[1]⟩) = bs4 ++ [1] := by
              rw [← HS4.out]
              have := bStr_add bs4 [1]
              show strB (bStr bs4 ++ bStr [1]) = _
              rw [this, strB_bStr]
            have h2 := refPut_any (s4 ++ ⟨#[1]⟩) qn W (by omega) (by rw [← strB_length, h1, List.length_append]; rw [← HS4.out, size_bStr] at hz4; simp; omega)
            rw [h1, List.append_assoc] at h2
            exact h2
          have HB4a : Hid (Below w.heap.size w (w4.alloc (.cells #[.int .u8 1] 5)).drew) := (HB4.out.trans ((bel_alloc w4 _).mono HB4.out.size)).drew
          go_upto_region 20 with fail
          go_cut [5] (fun s5 wx => s5 = .string (bStr (bs4 ++ (1 :: putB qn))) ∧ Hid (Below w.heap.size w wx))
          case first =>
            go_region_with (go_at_call 51; refine (HPUT.out _).mono ?_; rintro e w5 ⟨rfl, hb5⟩)
            all_goals (have HB5 : Hid (Below w.heap.size w w5) := HB4a.out.trans (hb5.mono HB4a.out.size))
            all_goals (clear hb5; go_wp2; go_meet; exact ⟨rfl, HB5⟩)
          case rest =>
            obtain ⟨rfl, HB5⟩ := hcut
            clear c0 c1 c2 c3 hcv hc3
            obtain ⟨c0, c1, c2, c3⟩ := HCELL.out wc HB5.out
            have HFI : Hid (bodyB es (i + 1) = bs4 ++ (1 :: putB qn)) := by
              show _ = _
              rw [bodyB, HX.out, pressB, HBP.out]
              simp only [HSHN.out]
              simp
            obtain ⟨s5, HS5⟩ : ∃ s, Hid (bStr (bs4 ++ (1 :: putB qn)) = s) := ⟨_, rfl⟩
            rw [HS5.out]
            go_wp2
            go_roundw
            case rel => exact ⟨i + 1, by go_num, by omega, by rw [HFI.out, HS5.out], by rw [HP2.out], by rw [HQQ.out], HB5⟩
            case measure => simp [intOf]; omega
        | false =>
          obtain ⟨c0, c1, c2, c3⟩ := HCELL.out w4 HB4.out
          have hcv : (convert 24 9 (.slice (some ⟨w4.heap.size, 0, none⟩) 1 1)).run Try.prog (w4.alloc (.cells #[.int .u8 0] 5)).drew = .ok (.string ⟨#[0]⟩) (w4.alloc (.cells #[.int .u8 0] 5)).drew := str_bytes 1 (bytes_drew1 (bytes_one w4 0))
          have hc3 : (w4.alloc (.cells #[.int .u8 0] 5)).drew.cell? ⟨b, off + i * 4 + 3, none⟩ = some (.int .i64 (qn : Int)) := bel_cell (Below.drew (bel_alloc w4 _)) (Nat.le_refl _) c3
          have hsz : s4.size + 1 ≤ 9223372036854775807 := by omega
          have HPUT : Hid (∀ W, Calls Try.prog 51 #[.string (s4 ++ ⟨#[0]⟩), .int .u64 (qn : Int)] W fun e w' => e = .returned (.string (bStr (bs4 ++ (0 :: putB qn)))) ∧ Below W.heap.size W w') := by
            show ∀ _, _
            intro W
            have h1 : strB (s4 ++ ⟨#[0]⟩) = bs4 ++ [0] := by
              rw [← HS4.out]
              have := bStr_add bs4 [0]
              show strB (bStr bs4 ++ bStr [0]) = _
              rw [this, strB_bStr]
            have h2 := refPut_any (s4 ++ ⟨#[0]⟩) qn W (by omega) (by rw [← strB_length, h1, List.length_append]; rw [← HS4.out, size_bStr] at hz4; simp; omega)
            rw [h1, List.append_assoc] at h2
            exact h2
          have HB4a : Hid (Below w.heap.size w (w4.alloc (.cells #[.int .u8 0] 5)).drew) := (HB4.out.trans ((bel_alloc w4 _).mono HB4.out.size)).drew
          go_upto_region 20 with fail
          go_cut [5] (fun s5 wx => s5 = .string (bStr (bs4 ++ (0 :: putB qn))) ∧ Hid (Below w.heap.size w wx))
          case first =>
            go_region_with (go_at_call 51; refine (HPUT.out _).mono ?_; rintro e w5 ⟨rfl, hb5⟩)
            all_goals (have HB5 : Hid (Below w.heap.size w w5) := HB4a.out.trans (hb5.mono HB4a.out.size))
            all_goals (clear hb5; go_wp2; go_meet; exact ⟨rfl, HB5⟩)
          case rest =>
            obtain ⟨rfl, HB5⟩ := hcut
            clear c0 c1 c2 c3 hcv hc3
            obtain ⟨c0, c1, c2, c3⟩ := HCELL.out wc HB5.out
            have HFI : Hid (bodyB es (i + 1) = (bs4 ++ (0 :: putB qn)) ++ textB (strB v0)) := by
              show _ = _
              rw [bodyB, HX.out, pressB, HBP.out]
              simp only [HSHN.out]
              simp
            obtain ⟨bs5, HBS5⟩ : ∃ b : List UInt8, Hid (bs4 ++ (0 :: putB qn) = b) := ⟨_, rfl⟩
            have hz5 : (bStr bs5).size ≤ 100400 := by
              have := putB_le qn
              rw [← HS4.out, size_bStr] at hz4
              rw [size_bStr, ← HBS5.out, List.length_append, List.length_cons]; omega
            rw [HBS5.out] at HFI ⊢
            have HSS5 : Hid (strB (bStr bs5) = bs5) := strB_bStr _
            obtain ⟨s5, HS5⟩ : ∃ s, Hid (bStr bs5 = s) := ⟨_, rfl⟩
            rw [HS5.out] at hz5 HSS5 ⊢
            go_wp2_with fail
            refine (refPutText_any s5 v0 _ (by omega) (by omega)).mono ?_
            rintro e w6 ⟨rfl, hb6⟩
            have HB6 : Hid (Below w.heap.size w w6) := HB5.out.trans (hb6.mono HB5.out.size)
            rw [HSS5.out, ← HFI.out]
            clear hb6 c0 c1 c2 c3
            obtain ⟨s6, HS6⟩ : ∃ s, Hid (bStr (bodyB es (i + 1)) = s) := ⟨_, rfl⟩
            have HS6' : Hid ((⟨(bodyB es (i + 1)).toArray⟩ : ByteArray) = s6) := HS6
            rw [HS6'.out]
            go_wp2
            go_roundw
            case rel => exact ⟨i + 1, by go_num, by omega, by rw [HS6.out], by rw [HP2.out], by rw [HQQ.out], HB6⟩
            case measure => simp [intOf]; omega
    · have hltz : ¬ (i : Int) < (n : Int) := by omega
      have hin2 : i = n := by omega
      subst hin2
      have HFO : Hid (out = (bodyB es i ++ placesB es i) ++ fixB q) := by
        show _ = _
        rw [← HOUT.out, blockB, HLN.out, placesB_len, HQ.out, List.append_assoc]
        congr 3
        omega
      have hqw : IntKind.u32.wrap (q : Int) = q := by rw [IntKind.wrap_u32]; omega
      have hsz : sb.size + sp.size ≤ 9223372036854775807 := by omega
      have HPUT : Hid (∀ W, Calls Try.prog 62 #[.string (sb ++ sp), .int .u32 (q : Int)] W fun e w' => e = .returned (.string (bStr out)) ∧ Below W.heap.size W w') := by
        show ∀ _, _
        intro W
        have h1 : strB (sb ++ sp) = bodyB es i ++ placesB es i := by rw [← HS.out, ← HP.out, bStr_add, strB_bStr]
        have h2 := refPutFixed_any (sb ++ sp) q W (by rw [← strB_length, h1, List.length_append, ← size_bStr, ← size_bStr, HS.out, HP.out]; omega) (by omega)
        rw [h1, ← HFO.out] at h2
        exact h2
      go_wp2_with fail
      refine (HPUT.out _).mono ?_
      rintro e w3 ⟨rfl, hb3⟩
      have HB3 : Hid (Below w.heap.size w w3) := HB.out.trans (hb3.mono HB.out.size)
      clear hb3
      go_wp2
      go_ret2
      exact ⟨rfl, HB3.out⟩
end Go.Proofs.Yteemfhhhdhddhaa
