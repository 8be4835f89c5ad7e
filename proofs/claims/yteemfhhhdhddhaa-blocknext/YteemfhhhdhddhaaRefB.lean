/-
  The document's answers for blocks: contracts over this translation.
-/
import Derived.Test.YteemfhhhdhddhaaFits
namespace Go.Proofs.Yteemfhhhdhddhaa
open Go.RowKit Go.Sort Go.Shelf
set_option linter.unusedSectionVars false
variable [Inhabited E] [DecidableEq E]
set_option maxRecDepth 100000 in
set_option maxHeartbeats 2000000 in
theorem refCommon_any (s t : ByteArray) (w : World) (hs : s.size ≤ 9223372036854775807) :
    Calls Try.prog 63 #[.string s, .string t] w fun e w' => e = .returned (.int .i64 (comN (strB s) (strB t) : Nat)) ∧ ∃ q, w' = w.drewN q := by
  obtain ⟨r, HR⟩ : ∃ r, Hid (comN (strB s) (strB t) = r) := ⟨_, rfl⟩
  rw [HR.out]
  go_enter Try.func63, Try.ntmps63
  go_wp2
  go_loopw [5] (fun x wr => ∃ k : Nat, x = .int .i64 k ∧ k ≤ s.size ∧ Hid (r = k + comN ((strB s).drop k) ((strB t).drop k)) ∧ (∃ q, wr = w.drewN q)) (fun x _ => s.size - (intOf x).toNat)
  case atStart => exact ⟨0, rfl, by omega, (by show _ = _; rw [← HR.out]; simp), 0, rfl⟩
  case round =>
    obtain ⟨k, rfl, hks, HK, hbel⟩ := hrel
    have HB : Hid _ := hbel
    clear hbel
    by_cases h1 : k < s.size
    · have h1z : (k : Int) < (s.size : Int) := by omega
      have d1 : decide ((k : Int) < (s.size : Int)) = true := decide_eq_true h1z
      by_cases h2 : k < t.size
      · have h2z : (k : Int) < (t.size : Int) := by omega
        have d2 : decide ((k : Int) < (t.size : Int)) = true := decide_eq_true h2z
        have hst := comN_step (strB s) (strB t) k (by rw [strB_length]; exact h1) (by rw [strB_length]; exact h2)
        rw [strB_at s k h1, strB_at t k h2] at hst
        by_cases h3 : s[k] = t[k]
        · have e3 : ((s[k].toNat : Int) == (t[k].toNat : Int)) = true := by simp [h3]
          have HZ : Hid (r = (k + 1) + comN ((strB s).drop (k + 1)) ((strB t).drop (k + 1))) := by show _ = _; rw [HK.out, hst, if_pos h3]; omega
          clear hst h3
          go_wp2_with fail
          go_quiet (fail)
          go_wp2
          go_roundw
          case rel => exact ⟨k + 1, by go_num, by omega, HZ, by obtain ⟨q0, hq0⟩ := HB.out; exact ⟨q0 + nq, by rw [hq0, World.drewN_drewN]⟩⟩
          case measure => simp [intOf]; omega
        · have e3 : ((s[k].toNat : Int) == (t[k].toNat : Int)) = false := by
            simp only [beq_eq_false_iff_ne, ne_eq]
            intro h
            exact h3 (UInt8.toNat_inj.1 (by omega))
          have HZ : Hid (r = k) := by show _ = _; rw [HK.out, hst, if_neg h3]; rfl
          clear hst h3
          go_wp2_with fail
          go_quiet (fail)
          go_wp2
          go_ret
          exact ⟨by rw [HZ.out]; rfl, by obtain ⟨q0, hq0⟩ := HB.out; exact ⟨q0 + nq, by rw [hq0, World.drewN_drewN]⟩⟩
      · have d2 : decide ((k : Int) < (t.size : Int)) = false := decide_eq_false (by omega)
        have h2z : ¬ (k : Int) < (t.size : Int) := by omega
        have HZ : Hid (r = k) := by show _ = _; rw [HK.out, comN_end _ _ _ (.inr (by rw [strB_length]; omega))]; rfl
        go_wp2_with fail
        go_quiet (fail)
        go_wp2
        go_ret
        exact ⟨by rw [HZ.out]; rfl, by obtain ⟨q0, hq0⟩ := HB.out; exact ⟨q0 + nq, by rw [hq0, World.drewN_drewN]⟩⟩
    · have d1 : decide ((k : Int) < (s.size : Int)) = false := decide_eq_false (by omega)
      have h1z : ¬ (k : Int) < (s.size : Int) := by omega
      have HZ : Hid (r = k) := by show _ = _; rw [HK.out, comN_end _ _ _ (.inl (by rw [strB_length]; omega))]; rfl
      go_wp2_with fail
      go_quiet (fail)
      go_wp2
      go_ret
      exact ⟨by rw [HZ.out]; rfl, by obtain ⟨q0, hq0⟩ := HB.out; exact ⟨q0 + nq, by rw [hq0, World.drewN_drewN]⟩⟩
set_option maxRecDepth 100000 in
set_option maxHeartbeats 2000000 in
theorem refSorted_any (ao : Option Addr) (n c : Nat) (es : List E) (w : World) (hE : EntsV w ao n es) (hbig : n ≤ 1000000000000) :
    Calls Try.prog 35 #[.slice ao n c] w fun e w' => e = .returned (.bool (sortedB es)) ∧ Below w.heap.size w w' := by
  have HE : Hid _ := hE
  clear hE
  go_enter Try.func35, Try.ntmps35
  go_wp2
  go_loopw [3] (fun x wr => ∃ i : Nat, x = .int .i64 (i + 1 : Nat) ∧ (i = 0 ∨ i + 1 ≤ n) ∧ Hid (∀ j, j < i → j + 1 < es.length → cmpS es[j]!.key es[j + 1]!.key < 0) ∧ Below w.heap.size w wr) (fun x _ => n - (intOf x).toNat)
  case atStart => exact ⟨0, rfl, .inl rfl, (fun j h => absurd h (by omega)), Below.refl _ _⟩
  case round =>
    obtain ⟨i, rfl, hin, HS, hbel⟩ := hrel
    by_cases hlt : i + 1 < n
    · have hltz : (i : Int) + 1 < (n : Int) := by omega
      obtain ⟨b, off, hao, hEn⟩ := HE.out.2 (by omega)
      have hln := HE.out.1
      have hEr : Ents wr b off es := hEn.below hbel (Nat.le_refl _)
      obtain ⟨k0, v0, d0, q0, HX⟩ : ∃ k0 v0 d0 q0, Hid (es[i]! = E.mk k0 v0 d0 q0) := ⟨_, _, _, _, rfl⟩
      obtain ⟨k1, v1, d1, q1, HY⟩ : ∃ k0 v0 d0 q0, Hid (es[i + 1]! = E.mk k0 v0 d0 q0) := ⟨_, _, _, _, rfl⟩
      obtain ⟨c0, -, -, -⟩ := ents_four hEr i (by omega) HX.out
      obtain ⟨c1, -, -, -⟩ := ents_four hEr (i + 1) (by omega) HY.out
      subst hao
      have HB : Hid _ := hbel
      clear hEr hEn hbel hin
      have HLN : Hid _ := hln
      clear hln
      have e1 := less_cmpS k0 k1
      by_cases h1 : cmpS k0 k1 < 0
      · have e1' : Op.bytesLess k0.toList k1.toList = true := by rw [e1]; exact decide_eq_true h1
        clear e1
        go_wp2_with fail
        go_quiet (fail)
        go_wp2
        go_roundw
        case rel =>
          refine ⟨i + 1, by go_num, .inr (by omega), (fun j hj hj2 => ?_), bel_drewN HB.out nq⟩
          by_cases e : j = i
          · subst e; rw [HX.out, HY.out]; exact h1
          · exact HS.out j (by omega) hj2
        case measure => simp [intOf]; omega
      · have hf : Hid (sortedB es = false) := by
          show _ = _
          cases hh : sortedB es with
          | false => rfl
          | true =>
            have := (sortedB_at es).1 hh i (by rw [HLN.out]; omega)
            rw [HX.out, HY.out] at this
            exact absurd this h1
        have e1' : Op.bytesLess k0.toList k1.toList = false := by rw [e1]; exact decide_eq_false h1
        clear e1
        go_wp2_with fail
        go_quiet (fail)
        go_wp2
        go_ret
        exact ⟨by rw [hf.out]; rfl, bel_drewN HB.out nq⟩
    · have hltz : ¬ (i : Int) + 1 < (n : Int) := by omega
      have ht : Hid (sortedB es = true) := (sortedB_at es).2 fun j hj => HS.out j (by rw [HE.out.1] at hj; omega) hj
      go_wp2
      go_ret
      exact ⟨by rw [ht.out]; rfl, hbel⟩
set_option maxRecDepth 100000 in
set_option maxHeartbeats 2000000 in
theorem refFit_any (ao : Option Addr) (n c : Nat) (es : List E) (w : World) (hE : EntsV w ao n es) (hsm : Small es) (hbig : n ≤ 1000000000000) :
    Calls Try.prog 61 #[.slice ao n c] w fun e w' => e = .returned (.bool (fitB es)) ∧ Below w.heap.size w w' := by
  obtain ⟨r, HR⟩ : ∃ r, Hid (fitB es = r) := ⟨_, rfl⟩
  rw [HR.out]
  have HE : Hid _ := hE
  have HS : Hid _ := hsm
  have HLN : Hid (es.length = n) := hE.1
  clear hE hsm
  by_cases h0 : n < 1
  · have hf : r = false := by rw [← HR.out]; unfold fitB; rw [HLN.out, decide_eq_false (by omega)]; rfl
    subst hf
    have h0z : (n : Int) < 1 := by omega
    go_enter Try.func61, Try.ntmps61
    go_wp2
    go_ret
    exact ⟨rfl, Below.refl _ _⟩
  · have h0z : ¬ (n : Int) < 1 := by omega
    by_cases h64 : n ≤ 64
    · have h64z : ¬ (64 : Int) < (n : Int) := by omega
      have HCS : Hid _ := refSorted_any ao n c es w HE.out hbig
      have HF : Hid (r = (es.all rightB && sortedB es)) := by show _ = _; rw [← HR.out]; unfold fitB; rw [HLN.out, decide_eq_true (by omega)]; simp
      go_enter Try.func61, Try.ntmps61
      go_wp2_with fail
      refine Calls.mono HCS.out ?_
      rintro e w1 ⟨rfl, hb1⟩
      obtain ⟨so, HSO⟩ : ∃ b, Hid (sortedB es = b) := ⟨_, rfl⟩
      rw [HSO.out] at HF ⊢
      have HB1 : Hid _ := hb1
      clear hb1 HCS
      cases so with
      | false =>
        have hf : r = false := by rw [HF.out]; simp
        subst hf
        go_wp2
        go_ret
        exact ⟨rfl, HB1.out⟩
      | true =>
        go_wp2
        go_loopw [3, 4] (fun x _ wr => ∃ i : Nat, x = .int .i64 i ∧ i ≤ n ∧ Hid (∀ e ∈ es.take i, rightB e = true) ∧ Below w.heap.size w wr) (fun x _ _ => n - (intOf x).toNat)
        case atStart => exact ⟨0, rfl, by omega, (fun e he => by simp at he), HB1.out⟩
        case round =>
          obtain ⟨i, rfl, hin, HA, hbel⟩ := hrel
          by_cases hlt : i < n
          · have hltz : (i : Int) < (n : Int) := by omega
            obtain ⟨b, off, hao, hEn⟩ := HE.out.2 (by omega)
            have hEr : Ents wr b off es := hEn.below hbel (Nat.le_refl _)
            obtain ⟨k0, v0, d0, q0, HX⟩ : ∃ k0 v0 d0 q0, Hid (es[i]! = E.mk k0 v0 d0 q0) := ⟨_, _, _, _, rfl⟩
            obtain ⟨c0, c1, c2, c3⟩ := ents_four hEr i (by rw [HLN.out]; omega) HX.out
            obtain ⟨s0, s1⟩ := small_at HS.out i (by rw [HLN.out]; omega) HX.out
            subst hao
            obtain ⟨y, HY⟩ : ∃ y, Hid (rightB ⟨k0, v0, d0, q0⟩ = y) := ⟨_, rfl⟩
            have CR := fun w => refRight_any k0 v0 d0 q0 w s0 s1
            rw [HY.out] at CR
            have HCR : Hid _ := CR
            have HB : Hid _ := hbel
            clear CR hEr hEn hbel s0 s1
            go_wp2_with fail
            refine (HCR.out _).mono ?_
            rintro e w2 ⟨rfl, hb2⟩
            have HB2 : Hid (Below w.heap.size w w2) := HB.out.trans (hb2.mono HB.out.size)
            clear hb2 c0 c1 c2 c3
            cases y with
            | false =>
              have hf : r = false := by
                rw [HF.out]
                have : es.all rightB = false := by
                  rw [List.all_eq_false]
                  exact ⟨es[i]!, by rw [getElem!_pos es i (by rw [HLN.out]; omega)]; exact List.getElem_mem _, by rw [HX.out, HY.out]; simp⟩
                rw [this]; rfl
              subst hf
              go_wp2
              go_ret
              exact ⟨rfl, HB2.out⟩
            | true =>
              go_wp2
              go_roundw
              case rel =>
                refine ⟨i + 1, by go_num, by omega, ?_, HB2.out⟩
                show ∀ e ∈ _, _
                intro e he
                rw [take_snoc es i (by rw [HLN.out]; omega), HX.out] at he
                rcases List.mem_append.1 he with he | he
                · exact HA.out e he
                · simp at he; subst he; exact HY.out
              case measure => simp [intOf]; omega
          · have hltz : ¬ (i : Int) < (n : Int) := by omega
            have hf : r = true := by
              rw [HF.out, Bool.and_true, List.all_eq_true]
              intro e he
              exact HA.out e (by rw [List.take_of_length_le (by rw [HLN.out]; omega)]; exact he)
            subst hf
            have HB : Hid _ := hbel
            clear hbel
            go_wp2
            go_ret
            exact ⟨rfl, HB.out⟩
    · have hf : r = false := by rw [← HR.out]; unfold fitB; rw [HLN.out, decide_eq_false (by omega)]; rfl
      subst hf
      have h64z : (64 : Int) < (n : Int) := by omega
      go_enter Try.func61, Try.ntmps61
      go_wp2
      go_ret
      exact ⟨rfl, Below.refl _ _⟩
end Go.Proofs.Yteemfhhhdhddhaa
