/-
  The document's answer for the block of a list: a contract over this translation. How a block is read: plain mathematics, no program.
-/
import Derived.Test.YtcgjhopfdpaocaaDoorPartAI
import Derived.Test.YtcgjhopfdpaocaaDoorPartAG
namespace Go.Proofs.YtcgjhopfdpaocaaDoor
open Go.RowKit Go.Sort Go.Shelf
set_option linter.unusedSectionVars false
variable [Inhabited E] [DecidableEq E]
def bStr (bs : List UInt8) : ByteArray := ⟨bs.toArray⟩
theorem strB_bStr (bs : List UInt8) : strB (bStr bs) = bs := strB_mk bs
theorem size_bStr (bs : List UInt8) : (bStr bs).size = bs.length := by rw [← strB_length, strB_bStr]
theorem bStr_add (a b : List UInt8) : bStr a ++ bStr b = bStr (a ++ b) := by
  apply ByteArray.ext
  simp [bStr, ByteArray.data_append]
def sharedN (es : List E) (i : Nat) : Nat := comN (strB (aheadK es i)) (strB es[i]!.key)
theorem bel_of_drew {w w' : World} (h : ∃ q, w' = w.drewN q) : Below w.heap.size w w' := by
  obtain ⟨q, rfl⟩ := h
  exact bel_drewN (Below.refl _ _) q
set_option maxRecDepth 100000 in
set_option maxHeartbeats 8000000 in
theorem refBlock_some (ao : Option Addr) (n c : Nat) (es : List E) (w : World) (hE : EntsV w ao n es) (hsm : Small es) (hf : fitB es = true) :
    Calls Tryd.prog 36 #[.slice ao n c] w fun e w' => e = .returned (.tuple #[.string (bStr (blockB es)), .int .i64 0]) ∧ Below w.heap.size w w' := by
  have hfit := hf
  unfold fitB at hfit
  simp only [Bool.and_eq_true, decide_eq_true_eq] at hfit
  obtain ⟨⟨⟨hn1, hn64⟩, hall⟩, hsrt⟩ := hfit
  have hln := hE.1
  have CF := refFit_any ao n c es w hE hsm (by omega)
  rw [hf] at CF
  have HCF : Hid _ := CF
  have HE : Hid _ := hE
  have HALL : Hid _ := hall
  have HLN : Hid (es.length = n) := hln
  rw [hln] at hn1 hn64
  have hbody := bodyB_len es (fun e he => by rw [List.all_eq_true] at hall; exact hall e he)
  have HBODY : Hid _ := hbody
  obtain ⟨out, HOUT⟩ : ∃ out, Hid (blockB es = out) := ⟨_, rfl⟩
  rw [HOUT.out]
  clear CF hE hsm hall hsrt hf hbody hln
  go_enter Tryd.func36, Tryd.ntmps36
  go_wp2_with fail
  refine Calls.mono HCF.out ?_
  rintro e w1 ⟨rfl, hb1⟩
  have HB1 : Hid _ := hb1
  clear hb1 HCF
  go_wp2
  go_loopw [5, 6, 7, 8, 9, 10] (fun s5 s6 s7 x _ _ wr => ∃ i : Nat, x = .int .i64 i ∧ i ≤ n ∧ s5 = .string (bStr (bodyB es i)) ∧ s6 = .string (bStr (placesB es i)) ∧ s7 = .int .i64 ((i + 7) / 8 : Nat) ∧ Hid (Below w.heap.size w wr)) (fun _ _ _ x _ _ _ => n - (intOf x).toNat)
  case atStart => exact ⟨0, rfl, by omega, rfl, rfl, rfl, HB1⟩
  case round =>
    obtain ⟨i, rfl, hin, rfl, rfl, rfl, HB⟩ := hrel
    have hbl := HBODY.out i (by rw [HLN.out]; omega)
    have hpl := placesB_len es i
    rw [← size_bStr] at hbl hpl
    have HSB : Hid (strB (bStr (bodyB es i)) = bodyB es i) := strB_bStr _
    have HSP : Hid (strB (bStr (placesB es i)) = placesB es i) := strB_bStr _
    obtain ⟨sb, HS⟩ : ∃ s, Hid (bStr (bodyB es i) = s) := ⟨_, rfl⟩
    obtain ⟨sp, HP⟩ : ∃ s, Hid (bStr (placesB es i) = s) := ⟨_, rfl⟩
    rw [HS.out] at hbl HSB ⊢
    rw [HP.out] at hpl HSP ⊢
    obtain ⟨q, hq⟩ : ∃ q, q = (i + 7) / 8 := ⟨_, rfl⟩
    rw [← hq] at hpl ⊢
    have hq9 : q ≤ 9 := by omega
    have hspz : sp.size ≤ 100 := by omega
    have hsbz : sb.size ≤ 100000 := by omega
    have HQ : Hid _ := hq
    clear hq hbl hpl
    by_cases hlt : i < n
    · have hltz : (i : Int) < (n : Int) := by omega
      obtain ⟨b, off, hao, hEn⟩ := HE.out.2 (by omega)
      obtain ⟨k0, v0, d0, q0, HX⟩ : ∃ k0 v0 d0 q0, Hid (es[i]! = E.mk k0 v0 d0 q0) := ⟨_, _, _, _, rfl⟩
      have hri := take_right HALL.out i (by rw [HLN.out]; omega)
      rw [HX.out] at hri
      obtain ⟨hk0, hv0, qn, hqn, hqn1, hqn2⟩ := right_parts hri
      simp only at hk0 hv0 hqn
      subst hqn
      have HCELL : Hid (∀ W, Below w.heap.size w W → W.cell? ⟨b, off + i * 4, none⟩ = some (.string k0) ∧ W.cell? ⟨b, off + i * 4 + 1, none⟩ = some (.string v0) ∧ W.cell? ⟨b, off + i * 4 + 2, none⟩ = some (.bool d0) ∧ W.cell? ⟨b, off + i * 4 + 3, none⟩ = some (.int .i64 (qn : Int))) := by
        show ∀ _, _
        intro W hW
        exact ents_four (hEn.below hW (Nat.le_refl _)) i (by rw [HLN.out]; omega) HX.out
      have HENN : Hid _ := hEn
      subst hao
      have hcn := comN_le (strB (aheadK es i)) (strB k0)
      have HSH : Hid (sharedN es i = comN (strB (aheadK es i)) (strB k0)) := by show _ = _; rw [sharedN, HX.out]
      obtain ⟨sh, HSHN⟩ : ∃ s, Hid (comN (strB (aheadK es i)) (strB k0) = s) := ⟨_, rfl⟩
      rw [HSHN.out] at hcn
      rw [strB_length] at hcn
      have hshk : sh ≤ k0.size := by have := hcn.2; rw [strB_length] at this; exact this
      have hshz : (sh : Int) ≤ (k0.size : Int) := by omega
      have hshw : IntKind.u64.wrap (sh : Int) = sh := by rw [IntKind.wrap_u64]; omega
      have hqw : IntKind.u64.wrap (qn : Int) = qn := by rw [IntKind.wrap_u64]; omega
      have hsbw : IntKind.u32.wrap (sb.size : Int) = sb.size := by rw [IntKind.wrap_u32]; omega
      clear hEn hri hcn
      go_upto_if 23 with fail
      go_cut [6, 7, 9] (fun s6 s7 s9 wx => s6 = .string (bStr (placesB es (i + 1))) ∧ s7 = .int .i64 ((i + 1 + 7) / 8 : Nat) ∧ s9 = .int .i64 sh ∧ Hid (Below w.heap.size w wx))
      case first =>
        by_cases h8 : i % 8 = 0
        · have h8z : ((i : Int) % 8 == 0) = true := by simp; omega
          have HPL : Hid (placesB es (i + 1) = placesB es i ++ fixB sb.size) := by show _ = _; rw [placesB, if_pos h8, ← HS.out, size_bStr]
          have hsh0 : sh = 0 := by
            rw [← HSHN.out]
            unfold aheadK
            rw [if_pos h8]
            rfl
          subst hsh0
          rw [h8z]
          go_wp2_with fail
          refine (refPutFixed_any sp sb.size _ (by omega) (by omega)).mono ?_
          rintro e w2 ⟨rfl, hb2⟩
          have HB2 : Hid (Below w.heap.size w w2) := HB.out.trans (hb2.mono HB.out.size)
          clear hb2
          rw [HSP.out, ← HPL.out]
          go_wp2
          go_meet
          case rel => exact ⟨rfl, by congr 1; have := HQ.out; omega, rfl, HB2⟩
        · have h8z : ((i : Int) % 8 == 0) = false := by simp; omega
          have HPL : Hid (placesB es (i + 1) = placesB es i) := by show _ = _; rw [placesB, if_neg h8]
          obtain ⟨k1, v1, d1, q1, HX1⟩ : ∃ k0 v0 d0 q0, Hid (es[i - 1]! = E.mk k0 v0 d0 q0) := ⟨_, _, _, _, rfl⟩
          obtain ⟨c0, -, -, -⟩ := HCELL.out wr HB.out
          obtain ⟨g0, -, -, -⟩ := ents_four (Ents.below HENN.out HB.out (Nat.le_refl _)) (i - 1) (by rw [HLN.out]; omega) HX1.out
          obtain ⟨j, hj⟩ : ∃ j, i = j + 1 := ⟨i - 1, by omega⟩
          have hj1 : i - 1 = j := by omega
          rw [hj1] at g0
          have hjz : (i : Int) - 1 = (j : Int) := by omega
          have hjlt : (j : Int) < (n : Int) := by omega
          have HAK : Hid (aheadK es i = k1) := by show _ = _; unfold aheadK; rw [if_neg h8, HX1.out]
          have hk1 : k1.size ≤ 128 := by
            have := take_right HALL.out (i - 1) (by rw [HLN.out]; omega)
            rw [HX1.out] at this
            exact (right_parts this).1
          have CC := fun w => refCommon_any k1 k0 w (by omega)
          have hsh2 := HSHN.out
          rw [HAK.out] at hsh2
          rw [hsh2] at CC
          have HJ : Hid _ := hj
          clear hj hj1 hsh2
          rw [h8z]
          go_wp2_with fail
          go_quiet ((go_at_call 65; exact Calls.quiet_of (CC _)))
          have HB2 : Hid (Below w.heap.size w (wr.drewN nq)) := bel_drewN HB.out nq
          clear CC c0 g0
          go_wp2
          go_meet
          case rel => exact ⟨by rw [HPL.out, HP.out], by congr 1; have := HQ.out; omega, rfl, HB2⟩
      case rest =>
        obtain ⟨rfl, rfl, rfl, HBC⟩ := hcut
        obtain ⟨sp2, HP2⟩ : ∃ s, Hid (bStr (placesB es (i + 1)) = s) := ⟨_, rfl⟩
        obtain ⟨qq, HQQ⟩ : ∃ s, Hid ((i + 1 + 7) / 8 = s) := ⟨_, rfl⟩
        rw [HP2.out, HQQ.out]
        clear HQ HP HSP
        go_wp2_with fail
        refine (refPut_any sb sh _ (by omega) (by omega)).mono ?_
        rintro e w3 ⟨rfl, hb3⟩
        have HB3 : Hid (Below w.heap.size w w3) := HBC.out.trans (hb3.mono HBC.out.size)
        have hz3 : (bStr (strB sb ++ putB sh)).size ≤ 100100 := by
          have := putB_le sh
          rw [size_bStr, List.length_append, strB_length]; omega
        have HX3 : Hid (strB (bStr (strB sb ++ putB sh)) = strB sb ++ putB sh) := strB_bStr _
        obtain ⟨s3, HS3⟩ : ∃ s, Hid (bStr (strB sb ++ putB sh) = s) := ⟨_, rfl⟩
        have HS3' : Hid ((⟨(strB sb ++ putB sh).toArray⟩ : ByteArray) = s3) := HS3
        rw [HS3'.out]
        rw [HS3.out] at hz3 HX3
        clear hb3
        obtain ⟨c0, -, -, -⟩ := HCELL.out w3 HB3.out
        have hks : (k0.extract sh k0.size).size ≤ 128 := by rw [ByteArray.size_extract]; omega
        go_wp2_with fail
        refine (refPutText_any s3 (k0.extract sh k0.size) _ (by omega) (by omega)).mono ?_
        rintro e w4 ⟨rfl, hb4⟩
        have HB4 : Hid (Below w.heap.size w w4) := HB3.out.trans (hb4.mono HB3.out.size)
        obtain ⟨bs4, HBS4⟩ : ∃ b : List UInt8, Hid (strB s3 ++ textB (strB (k0.extract sh k0.size)) = b) := ⟨_, rfl⟩
        have hz4 : (bStr bs4).size ≤ 100300 := by
          have := textB_len (strB (k0.extract sh k0.size))
          rw [strB_length] at this
          rw [size_bStr, ← HBS4.out, List.length_append, strB_length]; omega
        rw [HBS4.out]
        have HBP : Hid (bs4 = bodyB es i ++ (putB sh ++ textB ((strB k0).drop sh))) := by show _ = _; rw [← HBS4.out, HX3.out, HSB.out, strB_from, List.append_assoc]
        obtain ⟨s4, HS4⟩ : ∃ s, Hid (bStr bs4 = s) := ⟨_, rfl⟩
        have HS4' : Hid ((⟨bs4.toArray⟩ : ByteArray) = s4) := HS4
        rw [HS4'.out]
        rw [HS4.out] at hz4
        clear hb4 c0 hks HBS4 HX3 HS3 HS3' hz3
        cases d0 with
        | true =>
          obtain ⟨c0, c1, c2, c3⟩ := HCELL.out w4 HB4.out
          have hcv : (convert 25 9 (.slice (some ⟨w4.heap.size, 0, none⟩) 1 1)).run Tryd.prog (w4.alloc (.cells #[.int .u8 1] 5)).drew = .ok (.string ⟨#[1]⟩) (w4.alloc (.cells #[.int .u8 1] 5)).drew := str_bytes 1 (bytes_drew1 (bytes_one w4 1))
          have hc3 : (w4.alloc (.cells #[.int .u8 1] 5)).drew.cell? ⟨b, off + i * 4 + 3, none⟩ = some (.int .i64 (qn : Int)) := bel_cell (Below.drew (bel_alloc w4 _)) (Nat.le_refl _) c3
          have hsz : s4.size + 1 ≤ 9223372036854775807 := by omega
          have HPUT : Hid (∀ W, Calls Tryd.prog 37 #[.string (s4 ++ ⟨#[1]⟩), .int .u64 (qn : Int)] W fun e w' => e = .returned (.string (bStr (bs4 ++ (1 :: putB qn)))) ∧ Below W.heap.size W w') := by
            show ∀ _, _
            intro W
            have h1 : strB (s4 ++ ⟨#[1]⟩) = bs4 ++ [1] := by
              rw [← HS4.out]
              have := bStr_add bs4 [1]
              show strB (bStr bs4 ++ bStr [1]) = _
              rw [this, strB_bStr]
            have h2 := refPut_any (s4 ++ ⟨#[1]⟩) qn W (by omega) (by rw [← strB_length, h1, List.length_append]; rw [← HS4.out, size_bStr] at hz4; simp; omega)
            rw [h1, List.append_assoc] at h2
            exact h2
          have HB4a : Hid (Below w.heap.size w (w4.alloc (.cells #[.int .u8 1] 5)).drew) := (HB4.out.trans ((bel_alloc w4 _).mono HB4.out.size)).drew
          go_upto_region 20 with fail
          go_cut [5] (fun s5 wx => s5 = .string (bStr (bs4 ++ (1 :: putB qn))) ∧ Hid (Below w.heap.size w wx))
          case first =>
            go_region_with (go_at_call 37; refine (HPUT.out _).mono ?_; rintro e w5 ⟨rfl, hb5⟩)
            all_goals (have HB5 : Hid (Below w.heap.size w w5) := HB4a.out.trans (hb5.mono HB4a.out.size))
            all_goals (clear hb5; go_wp2; go_meet; exact ⟨rfl, HB5⟩)
          case rest =>
            obtain ⟨rfl, HB5⟩ := hcut
            clear c0 c1 c2 c3 hcv hc3
            obtain ⟨c0, c1, c2, c3⟩ := HCELL.out wc HB5.out
            have HFI : Hid (bodyB es (i + 1) = bs4 ++ (1 :: putB qn)) := by
              show _ = _
              rw [bodyB, HX.out, pressB, HBP.out]
              simp only [HSHN.out]
              simp
            obtain ⟨s5, HS5⟩ : ∃ s, Hid (bStr (bs4 ++ (1 :: putB qn)) = s) := ⟨_, rfl⟩
            rw [HS5.out]
            go_wp2
            go_roundw
            case rel => exact ⟨i + 1, by go_num, by omega, by rw [HFI.out, HS5.out], by rw [HP2.out], by rw [HQQ.out], HB5⟩
            case measure => simp [intOf]; omega
        | false =>
          obtain ⟨c0, c1, c2, c3⟩ := HCELL.out w4 HB4.out
          have hcv : (convert 25 9 (.slice (some ⟨w4.heap.size, 0, none⟩) 1 1)).run Tryd.prog (w4.alloc (.cells #[.int .u8 0] 5)).drew = .ok (.string ⟨#[0]⟩) (w4.alloc (.cells #[.int .u8 0] 5)).drew := str_bytes 1 (bytes_drew1 (bytes_one w4 0))
          have hc3 : (w4.alloc (.cells #[.int .u8 0] 5)).drew.cell? ⟨b, off + i * 4 + 3, none⟩ = some (.int .i64 (qn : Int)) := bel_cell (Below.drew (bel_alloc w4 _)) (Nat.le_refl _) c3
          have hsz : s4.size + 1 ≤ 9223372036854775807 := by omega
          have HPUT : Hid (∀ W, Calls Tryd.prog 37 #[.string (s4 ++ ⟨#[0]⟩), .int .u64 (qn : Int)] W fun e w' => e = .returned (.string (bStr (bs4 ++ (0 :: putB qn)))) ∧ Below W.heap.size W w') := by
            show ∀ _, _
            intro W
            have h1 : strB (s4 ++ ⟨#[0]⟩) = bs4 ++ [0] := by
              rw [← HS4.out]
              have := bStr_add bs4 [0]
              show strB (bStr bs4 ++ bStr [0]) = _
              rw [this, strB_bStr]
            have h2 := refPut_any (s4 ++ ⟨#[0]⟩) qn W (by omega) (by rw [← strB_length, h1, List.length_append]; rw [← HS4.out, size_bStr] at hz4; simp; omega)
            rw [h1, List.append_assoc] at h2
            exact h2
          have HB4a : Hid (Below w.heap.size w (w4.alloc (.cells #[.int .u8 0] 5)).drew) := (HB4.out.trans ((bel_alloc w4 _).mono HB4.out.size)).drew
          go_upto_region 20 with fail
          go_cut [5] (fun s5 wx => s5 = .string (bStr (bs4 ++ (0 :: putB qn))) ∧ Hid (Below w.heap.size w wx))
          case first =>
            go_region_with (go_at_call 37; refine (HPUT.out _).mono ?_; rintro e w5 ⟨rfl, hb5⟩)
            all_goals (have HB5 : Hid (Below w.heap.size w w5) := HB4a.out.trans (hb5.mono HB4a.out.size))
            all_goals (clear hb5; go_wp2; go_meet; exact ⟨rfl, HB5⟩)
          case rest =>
            obtain ⟨rfl, HB5⟩ := hcut
            clear c0 c1 c2 c3 hcv hc3
            obtain ⟨c0, c1, c2, c3⟩ := HCELL.out wc HB5.out
            have HFI : Hid (bodyB es (i + 1) = (bs4 ++ (0 :: putB qn)) ++ textB (strB v0)) := by
              show _ = _
              rw [bodyB, HX.out, pressB, HBP.out]
              simp only [HSHN.out]
              simp
            obtain ⟨bs5, HBS5⟩ : ∃ b : List UInt8, Hid (bs4 ++ (0 :: putB qn) = b) := ⟨_, rfl⟩
            have hz5 : (bStr bs5).size ≤ 100400 := by
              have := putB_le qn
              rw [← HS4.out, size_bStr] at hz4
              rw [size_bStr, ← HBS5.out, List.length_append, List.length_cons]; omega
            rw [HBS5.out] at HFI ⊢
            have HSS5 : Hid (strB (bStr bs5) = bs5) := strB_bStr _
            obtain ⟨s5, HS5⟩ : ∃ s, Hid (bStr bs5 = s) := ⟨_, rfl⟩
            rw [HS5.out] at hz5 HSS5 ⊢
            go_wp2_with fail
            refine (refPutText_any s5 v0 _ (by omega) (by omega)).mono ?_
            rintro e w6 ⟨rfl, hb6⟩
            have HB6 : Hid (Below w.heap.size w w6) := HB5.out.trans (hb6.mono HB5.out.size)
            rw [HSS5.out, ← HFI.out]
            clear hb6 c0 c1 c2 c3
            obtain ⟨s6, HS6⟩ : ∃ s, Hid (bStr (bodyB es (i + 1)) = s) := ⟨_, rfl⟩
            have HS6' : Hid ((⟨(bodyB es (i + 1)).toArray⟩ : ByteArray) = s6) := HS6
            rw [HS6'.out]
            go_wp2
            go_roundw
            case rel => exact ⟨i + 1, by go_num, by omega, by rw [HS6.out], by rw [HP2.out], by rw [HQQ.out], HB6⟩
            case measure => simp [intOf]; omega
    · have hltz : ¬ (i : Int) < (n : Int) := by omega
      have hin2 : i = n := by omega
      subst hin2
      have HFO : Hid (out = (bodyB es i ++ placesB es i) ++ fixB q) := by
        show _ = _
        rw [← HOUT.out, blockB, HLN.out, placesB_len, HQ.out, List.append_assoc]
        congr 3
        omega
      have hqw : IntKind.u32.wrap (q : Int) = q := by rw [IntKind.wrap_u32]; omega
      have hsz : sb.size + sp.size ≤ 9223372036854775807 := by omega
      have HPUT : Hid (∀ W, Calls Tryd.prog 39 #[.string (sb ++ sp), .int .u32 (q : Int)] W fun e w' => e = .returned (.string (bStr out)) ∧ Below W.heap.size W w') := by
        show ∀ _, _
        intro W
        have h1 : strB (sb ++ sp) = bodyB es i ++ placesB es i := by rw [← HS.out, ← HP.out, bStr_add, strB_bStr]
        have h2 := refPutFixed_any (sb ++ sp) q W (by rw [← strB_length, h1, List.length_append, ← size_bStr, ← size_bStr, HS.out, HP.out]; omega) (by omega)
        rw [h1, ← HFO.out] at h2
        exact h2
      go_wp2_with fail
      refine (HPUT.out _).mono ?_
      rintro e w3 ⟨rfl, hb3⟩
      have HB3 : Hid (Below w.heap.size w w3) := HB.out.trans (hb3.mono HB.out.size)
      clear hb3
      go_wp2
      go_ret2
      exact ⟨rfl, HB3.out⟩
end Go.Proofs.YtcgjhopfdpaocaaDoor
namespace Go.Proofs.YtcgjhopfdpaocaaDoor
open Go.RowKit
set_option linter.unusedSectionVars false
variable [Inhabited E] [DecidableEq E]
def finE (e : E) (n : Nat) : Option (E × Nat) := if rightB e = true then some (e, n) else none
def keyE (ah : ByteArray) (sh : Nat) (s : List UInt8) : ByteArray := bStr ((strB ah).take sh ++ s)
/-- An entry off the front of bytes, behind one with the key ah, and how many bytes it has. -/
def entOf (ah : ByteArray) (bs : List UInt8) : Option (E × Nat) :=
  if (getB bs).2.2 = false then none else
  if ah.size < (getB bs).1 then none else
  if (textOf (bs.drop (getB bs).2.1)).2.2 = false then none else
  if (getB bs).1 ≠ comN (strB ah) (strB (keyE ah (getB bs).1 (textOf (bs.drop (getB bs).2.1)).1)) then none else
  match bs.drop ((getB bs).2.1 + (textOf (bs.drop (getB bs).2.1)).2.1) with
  | [] => none
  | t :: r =>
    if 1 < t.toNat then none else
    if (getB r).2.2 = false then none else
    if t.toNat = 1 then finE ⟨keyE ah (getB bs).1 (textOf (bs.drop (getB bs).2.1)).1, ⟨#[]⟩, true, wrap64 ((getB r).1 : Int)⟩ ((getB bs).2.1 + (textOf (bs.drop (getB bs).2.1)).2.1 + 1 + (getB r).2.1) else
    if (textOf (r.drop (getB r).2.1)).2.2 = false then none else
    finE ⟨keyE ah (getB bs).1 (textOf (bs.drop (getB bs).2.1)).1, bStr (textOf (r.drop (getB r).2.1)).1, false, wrap64 ((getB r).1 : Int)⟩ ((getB bs).2.1 + (textOf (bs.drop (getB bs).2.1)).2.1 + 1 + (getB r).2.1 + (textOf (r.drop (getB r).2.1)).2.1)
theorem comN_take : ∀ a b : List UInt8, a.take (comN a b) = b.take (comN a b)
  | [], b => by cases b <;> rfl
  | _ :: _, [] => rfl
  | a :: x, b :: y => by
    rw [comN]
    split
    · rename_i h
      rw [List.take_succ_cons, List.take_succ_cons, comN_take x y, h]
    · rfl
theorem keyE_com (ah k : ByteArray) : keyE ah (comN (strB ah) (strB k)) ((strB k).drop (comN (strB ah) (strB k))) = k := by
  unfold keyE
  rw [comN_take, List.take_append_drop]
  exact (str_mk k).symm
theorem bStr_strB (s : ByteArray) : bStr (strB s) = s := (str_mk s).symm
theorem strB_keyE (ah : ByteArray) (sh : Nat) (s : List UInt8) : strB (keyE ah sh s) = (strB ah).take sh ++ s := strB_bStr _
/-- What was pressed is read. -/
theorem entOf_press (ah : ByteArray) (e : E) (h : rightB e = true) (ha : ah.size ≤ 128) (more : List UInt8) : entOf ah (pressB ah e ++ more) = some (e, (pressB ah e).length) := by
  obtain ⟨h1, h2, qn, h3, h4, h5⟩ := right_parts h
  have hdel : e.del = true → e.value = ⟨#[]⟩ := by
    intro hd
    simp only [rightB, decide_eq_true_eq] at h
    exact (size_zero e.value).1 (h.2.2.2.1 hd)
  obtain ⟨k, v, d, q⟩ := e
  simp only at h1 h2 h3 hdel
  subst h3
  have hq : wrap64 (qn : Int) = qn := by unfold wrap64; omega
  have hcl := comN_le (strB ah) (strB k)
  rw [strB_length, strB_length] at hcl
  have hk := keyE_com ah k
  unfold pressB
  simp only
  generalize hc : comN (strB ah) (strB k) = c at hcl hk
  have g0 : ∀ m, getB (putB c ++ m) = (c, (putB c).length, true) := fun m => getB_putB c (by omega) m
  have g1 : ∀ m, getB (putB qn ++ m) = (qn, (putB qn).length, true) := fun m => getB_putB qn (by omega) m
  have t1 : ∀ m, textOf (textB ((strB k).drop c) ++ m) = ((strB k).drop c, (textB ((strB k).drop c)).length, true) := fun m => textOf_textB _ m (by rw [List.length_drop, strB_length]; omega)
  have t2 : ∀ m, textOf (textB (strB v) ++ m) = (strB v, (textB (strB v)).length, true) := fun m => textOf_textB _ m (by rw [strB_length]; omega)
  have d0 : ∀ m, (putB c ++ m).drop (putB c).length = m := fun m => List.drop_left
  have d1 : ∀ m, (putB qn ++ m).drop (putB qn).length = m := fun m => List.drop_left
  have d2 : ∀ m, (putB c ++ (textB ((strB k).drop c) ++ m)).drop ((putB c).length + (textB ((strB k).drop c)).length) = m := fun m => by
    rw [← List.append_assoc, ← List.length_append]; exact List.drop_left
  have e0 : (⟨k, v, d, (qn : Int)⟩ : E).seq.toNat = qn := rfl
  cases d with
  | true =>
    simp only [if_true, List.append_nil, List.cons_append, List.append_assoc, Int.toNat_natCast]
    unfold entOf
    rw [g0]
    simp only [d0, t1, hk, hc]
    rw [if_neg (by simp), if_neg (by omega), if_neg (by simp), if_neg (by simp), d2]
    simp only
    rw [if_neg (by decide), g1]
    simp only
    rw [if_neg (by simp), if_pos (by decide), hq, finE]
    rw [hdel rfl] at h
    rw [if_pos h, hdel rfl]
    simp only [List.length_cons, List.length_append]
    congr 2
    omega
  | false =>
    simp only [Bool.false_eq_true, if_false, List.cons_append, List.append_assoc, Int.toNat_natCast]
    unfold entOf
    rw [g0]
    simp only [d0, t1, hk, hc]
    rw [if_neg (by simp), if_neg (by omega), if_neg (by simp), if_neg (by simp), d2]
    simp only
    rw [if_neg (by decide), g1]
    simp only
    rw [if_neg (by simp), if_neg (by decide), d1, t2]
    simp only
    rw [if_neg (by simp), hq, finE, bStr_strB, if_pos h]
    simp only [List.length_cons, List.length_append]
    congr 2
    omega
theorem finE_some {e x : E} {n m : Nat} (h : finE e n = some (x, m)) : rightB e = true ∧ x = e ∧ m = n := by
  unfold finE at h
  split at h
  · rename_i hr; cases h; exact ⟨hr, rfl, rfl⟩
  · cases h
theorem add5 (n m k : Nat) : n + m + 1 + k = n + (m + (1 + k)) := by omega
theorem add6 (n m k j : Nat) : n + m + 1 + k + j = n + (m + (1 + (k + j))) := by omega
theorem len5 {n m k L : Nat} (h1 : 1 ≤ n) (h : n + m + 1 + k ≤ L) : 1 ≤ n + m + 1 + k ∧ n + m + 1 + k ≤ L := by omega
/-- What is read was pressed so. -/
theorem entOf_once {ah : ByteArray} {bs : List UInt8} {x : E} {l : Nat} (h : entOf ah bs = some (x, l)) : rightB x = true ∧ 1 ≤ l ∧ l ≤ bs.length ∧ bs.take l = pressB ah x := by
  unfold entOf at h
  obtain ⟨⟨sh, n, ok⟩, hg⟩ : ∃ y, getB bs = y := ⟨_, rfl⟩
  rw [hg] at h
  simp only at h
  split at h
  · cases h
  rename_i hok
  have hok : ok = true := by simpa using hok
  subst hok
  obtain ⟨g1, g2, g3, g4, -⟩ := getB_once bs sh n hg
  split at h
  · cases h
  rename_i hsh
  obtain ⟨⟨s, m, ok1⟩, ht⟩ : ∃ y, textOf (bs.drop n) = y := ⟨_, rfl⟩
  rw [ht] at h
  simp only at h
  split at h
  · cases h
  rename_i hok1
  have hok1 : ok1 = true := by simpa using hok1
  subst hok1
  obtain ⟨t1, t2, t3, t4⟩ := textOf_once _ _ _ ht
  rw [List.length_drop] at t2
  split at h
  · cases h
  rename_i hcom
  have hcom : comN (strB ah) (strB (keyE ah sh s)) = sh := by
    rw [ne_eq, Decidable.not_not] at hcom; exact hcom.symm
  have hkd : (strB (keyE ah sh s)).drop sh = s := by
    rw [strB_keyE]
    have hl : ((strB ah).take sh).length = sh := by rw [List.length_take, strB_length]; omega
    exact List.drop_left' hl
  split at h
  · cases h
  rename_i t r hdr
  have hrl : r.length + 1 = bs.length - (n + m) := by
    have := congrArg List.length hdr
    rw [List.length_drop, List.length_cons] at this
    exact this.symm
  split at h
  · cases h
  rename_i ht1
  obtain ⟨⟨q, k, ok2⟩, hq⟩ : ∃ y, getB r = y := ⟨_, rfl⟩
  rw [hq] at h
  simp only at h
  split at h
  · cases h
  rename_i hok2
  have hok2 : ok2 = true := by simpa using hok2
  subst hok2
  obtain ⟨q1, q2, q3, q4, -⟩ := getB_once r q k hq
  have htake : ∀ j, bs.take (n + (m + (1 + j))) = putB sh ++ (textB s ++ (t :: r.take j)) := by
    intro j
    rw [take_add, g4, take_add, t3, List.drop_drop, hdr, Nat.add_comm 1 j, List.take_succ_cons]
  split at h
  · rename_i ht2
    obtain ⟨hr, rfl, rfl⟩ := finE_some h
    have hR := hr
    simp only [rightB, decide_eq_true_eq] at hR
    obtain ⟨w1, w2⟩ := wrap64_right q1 hR.2.2.2.2.1 hR.2.2.2.2.2
    have htt : t = 1 := UInt8.toNat_inj.1 ht2
    obtain ⟨l1, l2⟩ := len5 (m := m) (k := k) (L := bs.length) g2 (by clear h hr hR htake; omega)
    refine ⟨hr, l1, l2, ?_⟩
    rw [add5, htake, q4, pressB]
    simp only [hcom, hkd, if_true, w2, List.append_nil, List.append_assoc, htt]
  · rename_i ht2
    have ht0 : t = 0 := UInt8.toNat_inj.1 (num0 ht1 ht2)
    obtain ⟨⟨v, j, ok3⟩, hv⟩ : ∃ y, textOf (r.drop k) = y := ⟨_, rfl⟩
    rw [hv] at h
    simp only at h
    split at h
    · cases h
    rename_i hok3
    have hok3 : ok3 = true := by simpa using hok3
    subst hok3
    obtain ⟨v1, v2, v3, v4⟩ := textOf_once _ _ _ hv
    rw [List.length_drop] at v2
    obtain ⟨hr, rfl, rfl⟩ := finE_some h
    have hR := hr
    simp only [rightB, decide_eq_true_eq] at hR
    obtain ⟨w1, w2⟩ := wrap64_right q1 hR.2.2.2.2.1 hR.2.2.2.2.2
    have l0 : n + m + 1 + (k + j) ≤ bs.length := by clear h hr hR htake; omega
    obtain ⟨l1, l2⟩ := len5 (m := m) (k := k + j) (L := bs.length) g2 l0
    refine ⟨hr, by rw [← Nat.add_assoc] at l1; exact l1, by rw [← Nat.add_assoc] at l2; exact l2, ?_⟩
    rw [add6, htake, take_add, q4, v3, pressB]
    simp only [hcom, hkd, Bool.false_eq_true, if_false, w2, List.append_assoc, List.cons_append, ht0, strB_bStr]
/-! ### the entries of a block -/
theorem bodyB_ext (es fs : List E) : ∀ i, (∀ j, j < i → es[j]! = fs[j]!) → bodyB es i = bodyB fs i
  | 0, _ => rfl
  | i + 1, h => by
    rw [bodyB, bodyB, bodyB_ext es fs i (fun j hj => h j (by omega)), h i (by omega)]
    congr 2
    unfold aheadK
    split
    · rfl
    · rw [h (i - 1) (by omega)]
theorem placesB_ext (es fs : List E) : ∀ i, (∀ j, j < i → es[j]! = fs[j]!) → placesB es i = placesB fs i
  | 0, _ => rfl
  | i + 1, h => by
    rw [placesB, placesB, placesB_ext es fs i (fun j hj => h j (by omega)), bodyB_ext es fs i (fun j hj => h j (by omega))]
theorem get_app (l r : List E) (j : Nat) (h : j < l.length) : (l ++ r)[j]! = l[j]! := by
  rw [List.getElem!_eq_getElem?_getD, List.getElem!_eq_getElem?_getD, List.getElem?_append_left h]
theorem get_app_at (l r : List E) (e : E) : (l ++ e :: r)[l.length]! = e := by
  rw [List.getElem!_eq_getElem?_getD, List.getElem?_append_right (Nat.le_refl _)]; simp
theorem aheadK_app (l r : List E) : aheadK (l ++ r) l.length = aheadK l l.length := by
  unfold aheadK
  split
  · rfl
  · rename_i h
    rw [get_app _ _ _ (by cases l with | nil => exact absurd rfl h | cons a x => simp)]
theorem bodyB_app (l r : List E) : bodyB (l ++ r) l.length = bodyB l l.length := bodyB_ext _ _ _ (fun j hj => get_app l r j hj)
theorem placesB_app (l r : List E) : placesB (l ++ r) l.length = placesB l l.length := placesB_ext _ _ _ (fun j hj => get_app l r j hj)
theorem bodyB_snoc (l r : List E) (e : E) : bodyB (l ++ e :: r) (l.length + 1) = bodyB l l.length ++ pressB (aheadK l l.length) e := by
  rw [bodyB, bodyB_app, aheadK_app, get_app_at]
theorem bodyB_more (es : List E) (i : Nat) : ∀ k, ∃ more, bodyB es (i + k) = bodyB es i ++ more
  | 0 => ⟨[], by simp⟩
  | k + 1 => by
    obtain ⟨m, hm⟩ := bodyB_more es i k
    exact ⟨m ++ pressB (aheadK es (i + k)) es[i + k]!, by rw [← Nat.add_assoc, bodyB, hm, List.append_assoc]⟩
theorem pressB_pos (ah : ByteArray) (e : E) : 1 ≤ (pressB ah e).length := by
  unfold pressB
  have := putB_pos (comN (strB ah) (strB e.key))
  simp only [List.length_append, List.length_cons]
  omega
theorem aheadK_size {l : List E} (h : l.all rightB = true) (i : Nat) (hi : i ≤ l.length) : (aheadK l i).size ≤ 128 := by
  unfold aheadK
  split
  · simp [ByteArray.size]
  · have := take_right h (i - 1) (by omega)
    exact (right_parts this).1
/-- Where a reader of a block's entries stands. -/
structure ParInv (body : List UInt8) (l : List E) (at_ : Nat) : Prop where
  right : l.all rightB = true
  len : l.length ≤ 64
  le : at_ ≤ body.length
  pre : bodyB l l.length = body.take at_
  uniq : ∀ l0, fitB l0 = true → bodyB l0 l0.length = body → ∃ rest, l0 = l ++ rest
theorem fit_all {l : List E} (h : fitB l = true) : l.all rightB = true := by
  unfold fitB at h; simp only [Bool.and_eq_true] at h; exact h.1.2
theorem fit_len {l : List E} (h : fitB l = true) : 1 ≤ l.length ∧ l.length ≤ 64 := by
  unfold fitB at h; simp only [Bool.and_eq_true, decide_eq_true_eq] at h; exact h.1.1
theorem inv_nil (body : List UInt8) : ParInv body [] 0 := ⟨rfl, by simp, by omega, by simp [bodyB], fun l0 _ _ => ⟨l0, rfl⟩⟩
/-- Of a fit list that goes on so, what comes next is read. -/
theorem next_of (l rest : List E) (body : List UInt8) (hall : (l ++ rest).all rightB = true) (hb : bodyB (l ++ rest) (l ++ rest).length = body) (at_ : Nat) (hat : bodyB l l.length = body.take at_) (hlt : at_ < body.length) :
    ∃ e r, rest = e :: r ∧ entOf (aheadK l l.length) (body.drop at_) = some (e, (pressB (aheadK l l.length) e).length) := by
  have hl : (bodyB l l.length).length = at_ := by rw [hat, List.length_take]; omega
  cases rest with
  | nil =>
    exfalso
    rw [List.append_nil] at hb
    rw [hb] at hl
    omega
  | cons e r =>
    refine ⟨e, r, rfl, ?_⟩
    obtain ⟨more, hm⟩ := bodyB_more (l ++ e :: r) (l.length + 1) r.length
    rw [bodyB_snoc, show l.length + 1 + r.length = (l ++ e :: r).length by simp; omega, hb] at hm
    have hd : body.drop at_ = pressB (aheadK l l.length) e ++ more := by
      rw [hm, ← hl, List.append_assoc, List.drop_left]
    rw [hd]
    have hal : l.all rightB = true := by rw [List.all_append, Bool.and_eq_true] at hall; exact hall.1
    have hre : rightB e = true := by
      rw [List.all_append, Bool.and_eq_true, List.all_cons, Bool.and_eq_true] at hall; exact hall.2.1
    exact entOf_press _ _ hre (aheadK_size hal _ (Nat.le_refl _)) more
theorem inv_full {body : List UInt8} {l : List E} {at_ : Nat} (h : ParInv body l at_) (hlt : at_ < body.length) (h64 : ¬ l.length < 64) : ∀ l0, fitB l0 = true → bodyB l0 l0.length ≠ body := by
  intro l0 hf hb
  obtain ⟨rest, rfl⟩ := h.uniq l0 hf hb
  obtain ⟨e, r, rfl, -⟩ := next_of l rest body (fit_all hf) hb at_ h.pre hlt
  have := (fit_len hf).2
  simp at this
  omega
theorem inv_bad {body : List UInt8} {l : List E} {at_ : Nat} (h : ParInv body l at_) (hlt : at_ < body.length) (hn : entOf (aheadK l l.length) (body.drop at_) = none) : ∀ l0, fitB l0 = true → bodyB l0 l0.length ≠ body := by
  intro l0 hf hb
  obtain ⟨rest, rfl⟩ := h.uniq l0 hf hb
  obtain ⟨e, r, rfl, he⟩ := next_of l rest body (fit_all hf) hb at_ h.pre hlt
  rw [hn] at he
  cases he
theorem inv_step {body : List UInt8} {l : List E} {at_ : Nat} (h : ParInv body l at_) (hlt : at_ < body.length) (h64 : l.length < 64) {e : E} {n : Nat} (hn : entOf (aheadK l l.length) (body.drop at_) = some (e, n)) : ParInv body (l ++ [e]) (at_ + n) := by
  obtain ⟨h1, h2, h3, h4⟩ := entOf_once hn
  rw [List.length_drop] at h3
  refine ⟨?_, by simp; omega, by omega, ?_, ?_⟩
  · rw [List.all_append, h.right, List.all_cons, h1]; rfl
  · rw [List.length_append, List.length_singleton, bodyB_snoc, h.pre, take_add, h4]
  · intro l0 hf hb
    obtain ⟨rest, rfl⟩ := h.uniq l0 hf hb
    obtain ⟨e2, r, rfl, he⟩ := next_of l rest body (fit_all hf) hb at_ h.pre hlt
    rw [hn] at he
    cases he
    exact ⟨r, by simp⟩
/-- At the end of the body just one list is left. -/
theorem inv_end {body : List UInt8} {l : List E} {at_ : Nat} (h : ParInv body l at_) (he : ¬ at_ < body.length) : bodyB l l.length = body ∧ ∀ l0, fitB l0 = true → bodyB l0 l0.length = body → l0 = l := by
  have hb : bodyB l l.length = body := by rw [h.pre, List.take_of_length_le (by omega)]
  refine ⟨hb, fun l0 hf hb0 => ?_⟩
  obtain ⟨rest, rfl⟩ := h.uniq l0 hf hb0
  cases rest with
  | nil => simp
  | cons e r =>
    exfalso
    obtain ⟨more, hm⟩ := bodyB_more (l ++ e :: r) (l.length + 1) r.length
    rw [bodyB_snoc, show l.length + 1 + r.length = (l ++ e :: r).length by simp; omega, hb0, hb] at hm
    have h1 := congrArg List.length hm
    have h2 := pressB_pos (aheadK l l.length) e
    simp only [List.length_append] at h1
    omega
/-- The place of a block's foot. -/
def footN (bs : List UInt8) : Nat := (fixOf (bs.drop (bs.length - 4))).1
theorem fixB_len (v : Nat) : (fixB v).length = 4 := rfl
theorem foot_block {l : List E} {bs : List UInt8} (hf : fitB l = true) (hb : blockB l = bs) :
    4 ≤ bs.length ∧ (footN bs + 1) * 4 ≤ bs.length ∧ bodyB l l.length = bs.take (bs.length - (footN bs + 1) * 4) := by
  have hl := fit_len hf
  have hp := placesB_len l l.length
  have hlen : bs.length = (bodyB l l.length).length + ((placesB l l.length).length + 4) := by
    rw [← hb, blockB, List.length_append, List.length_append, fixB_len]
  have hdr : bs.drop (bs.length - 4) = fixB ((placesB l l.length).length / 4) := by
    rw [hlen, show (bodyB l l.length).length + ((placesB l l.length).length + 4) - 4 = (bodyB l l.length ++ placesB l l.length).length by rw [List.length_append]; omega, ← hb, blockB, ← List.append_assoc]
    exact List.drop_left
  have hn : footN bs = (placesB l l.length).length / 4 := by
    unfold footN
    rw [hdr]
    have := fixOf_fixB ((placesB l l.length).length / 4) (by omega) []
    rw [List.append_nil] at this
    rw [this]
  have hq : (footN bs + 1) * 4 = (placesB l l.length).length + 4 := by rw [hn, hp]; omega
  refine ⟨by omega, by omega, ?_⟩
  rw [hq, hlen, Nat.add_sub_cancel, ← hb, blockB]
  exact List.take_left.symm
/-- What the parser does behind the entries decides. -/
theorem par_end {bs : List UInt8} {l : List E} {at_ : Nat} (hle : (footN bs + 1) * 4 ≤ bs.length) (h : ParInv (bs.take (bs.length - (footN bs + 1) * 4)) l at_) (he : ¬ at_ < bs.length - (footN bs + 1) * 4) :
    (1 ≤ l.length ∧ sortedB l = true ∧ bs.drop (bs.length - (footN bs + 1) * 4) = placesB l l.length ++ fixB ((placesB l l.length).length / 4) → fitB l = true ∧ blockB l = bs) ∧
    (∀ l0, fitB l0 = true → blockB l0 = bs → l0 = l) := by
  have hbl : (bs.take (bs.length - (footN bs + 1) * 4)).length = bs.length - (footN bs + 1) * 4 := by rw [List.length_take]; omega
  obtain ⟨h1, h2⟩ := inv_end h (by rw [hbl]; exact he)
  refine ⟨fun ⟨a, b, c⟩ => ⟨?_, ?_⟩, fun l0 hf hb => h2 l0 hf (foot_block hf hb).2.2⟩
  · unfold fitB
    rw [h.right, b]
    simp only [Bool.and_true, decide_eq_true_eq]
    exact ⟨a, h.len⟩
  · rw [blockB, h1, ← c, List.take_append_drop]
end Go.Proofs.YtcgjhopfdpaocaaDoor
