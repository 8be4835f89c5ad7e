/-
  Just what is fit has a block: what the law BlockFits answers, for any arguments.
-/
import Derived.Test.YteemfhhhdhddhaaFew4
namespace Go.Proofs.Yteemfhhhdhddhaa
open Go.RowKit Go.Sort Go.Shelf
set_option linter.unusedSectionVars false
variable [Inhabited E] [DecidableEq E]
theorem all_snoc (es : List E) (i : Nat) (h : i < es.length) : (es.take (i + 1)).all rightB = ((es.take i).all rightB && rightB es[i]!) := by
  rw [take_snoc es i h, List.all_append]; simp
set_option maxRecDepth 100000 in
set_option maxHeartbeats 4000000 in
theorem fits_walk (ao : Option Addr) (n c : Nat) (es : List E) (w : World) (hE : EntsV w ao n es) (hsm : Small es) (hnc : n ≤ c) (hc : c ≤ 9223372036854775807) :
    Calls Try.prog 15 #[.slice ao n c] w fun e w' => e = .returned (.bool true) ∧ Below w.heap.size w w' := by
  go_enter Try.func15, Try.ntmps15
  go_wp2_with fail
  refine (shown4_any w).mono ?_
  rintro e w1 ⟨rfl, hb1⟩
  go_wp2_with fail
  refine (few4_any ao n c 70 es w1 (hE.below hb1 (Nat.le_refl _)) hsm (by omega) (by omega)).mono ?_
  rintro e w2 ⟨v2, rfl, hown2, hb2⟩
  have hl2 := fewS_len 130 1030 70 es
  have hs2 := fewS_small 130 1030 70 es hsm
  obtain ⟨fs, HF⟩ : ∃ fs, Hid (fewS 130 1030 70 es = fs) := ⟨_, rfl⟩
  rw [HF.out] at hown2 hl2 hs2
  obtain ⟨ao2, c2, rfl, hE2⟩ := own_entsV hown2 rfl
  have hB2 : Below w.heap.size w w2 := hb1.trans (hb2.mono hb1.size)
  clear hown2 hb1 hb2 hE hsm
  obtain ⟨l, HL⟩ : ∃ l, Hid (fs.length = l) := ⟨_, rfl⟩
  have h70 : l ≤ 70 := by rw [← HL.out]; omega
  rw [HL.out] at hE2
  rw [HL.out]
  have HE2 : Hid _ := hE2
  have HB2 : Hid _ := hB2
  have HS2 : Hid _ := hs2
  clear hl2 hE2 hB2 hs2
  obtain ⟨bo, HBO⟩ : ∃ b, Hid ((decide (1 ≤ l ∧ l ≤ 64) && sortedB fs) = b) := ⟨_, rfl⟩
  go_upto_region 3 with fail
  go_cut [4] (fun s4 wx => s4 = .bool bo ∧ Hid (Below w2.heap.size w2 wx))
  case first =>
    by_cases h1 : 1 ≤ l
    · have h1z : (1 : Int) ≤ (l : Int) := by omega
      by_cases h2 : l ≤ 64
      · have h2z : (l : Int) ≤ 64 := by omega
        have HCS : Hid _ := sorted_any ao2 l c2 fs w2 HE2.out (by omega)
        have HX : Hid (sortedB fs = bo) := by show _ = _; rw [← HBO.out, decide_eq_true ⟨h1, h2⟩, Bool.true_and]
        go_wp2_with fail
        refine Calls.mono HCS.out ?_
        rintro e w3 ⟨rfl, hb3⟩
        have HB3 : Hid _ := hb3
        clear hb3
        rw [HX.out]
        go_wp2
        go_meet
        case rel => exact ⟨rfl, HB3⟩
      · have h2z : ¬ (l : Int) ≤ 64 := by omega
        have hbo : bo = false := by rw [← HBO.out, decide_eq_false (by omega)]; rfl
        subst hbo
        go_wp2
        go_meet
        case rel => exact ⟨rfl, Below.refl _ _⟩
    · have h1z : ¬ (1 : Int) ≤ (l : Int) := by omega
      have hbo : bo = false := by rw [← HBO.out, decide_eq_false (by omega)]; rfl
      subst hbo
      go_wp2
      go_meet
      case rel => exact ⟨rfl, Below.refl _ _⟩
  case rest =>
    obtain ⟨rfl, HBC⟩ := hcut
    go_wp2
    go_loopw [4, 5] (fun s4 x wr => ∃ i : Nat, x = .int .i64 i ∧ i ≤ l ∧ s4 = .bool (bo && (fs.take i).all rightB) ∧ Hid (Below w2.heap.size w2 wr)) (fun _ x _ => l - (intOf x).toNat)
    case atStart => exact ⟨0, rfl, by omega, by simp, HBC⟩
    case round =>
      obtain ⟨i, rfl, hil, rfl, HB⟩ := hrel
      by_cases hlt : i < l
      · have hltz : (i : Int) < (l : Int) := by omega
        obtain ⟨b, off, hao, hEn⟩ := HE2.out.2 (by omega)
        have hEr : Ents wr b off fs := hEn.below HB.out (Nat.le_refl _)
        obtain ⟨k0, v0, d0, q0, HX⟩ : ∃ k0 v0 d0 q0, Hid (fs[i]! = E.mk k0 v0 d0 q0) := ⟨_, _, _, _, rfl⟩
        obtain ⟨c0, c1, c2', c3⟩ := ents_four hEr i (by rw [HL.out]; omega) HX.out
        obtain ⟨s0, s1⟩ := small_at HS2.out i (by rw [HL.out]; omega) HX.out
        subst hao
        have HSN : Hid ((fs.take (i + 1)).all rightB = ((fs.take i).all rightB && rightB ⟨k0, v0, d0, q0⟩)) := by show _ = _; rw [all_snoc fs i (by rw [HL.out]; omega), HX.out]
        have HCR : Hid _ := fun w => right_any k0 v0 d0 q0 w s0 s1
        obtain ⟨y, HY⟩ : ∃ y, Hid ((bo && (fs.take i).all rightB) = y) := ⟨_, rfl⟩
        rw [HY.out]
        clear hEr hEn s0 s1
        cases y with
        | false =>
          go_wp2
          go_roundw
          case rel => exact ⟨i + 1, by go_num, by omega, by rw [HSN.out, ← Bool.and_assoc, HY.out]; rfl, HB⟩
          case measure => simp [intOf]; omega
        | true =>
          go_wp2_with fail
          refine (HCR.out _).mono ?_
          rintro e w4 ⟨rfl, hb4⟩
          have HB4 : Hid (Below w2.heap.size w2 w4) := HB.out.trans (hb4.mono HB.out.size)
          obtain ⟨r, HR⟩ : ∃ r, Hid (rightB ⟨k0, v0, d0, q0⟩ = r) := ⟨_, rfl⟩
          rw [HR.out]
          clear hb4 c0 c1 c2' c3
          go_wp2
          go_roundw
          case rel => exact ⟨i + 1, by go_num, by omega, by rw [HSN.out, ← Bool.and_assoc, HY.out, HR.out]; rfl, HB4⟩
          case measure => simp [intOf]; omega
      · have hltz : ¬ (i : Int) < (l : Int) := by omega
        have HALL : Hid ((bo && (fs.take i).all rightB) = fitB fs) := by
          show _ = _
          rw [List.take_of_length_le (by rw [HL.out]; omega), ← HBO.out]
          unfold fitB
          rw [HL.out]
          cases decide (1 ≤ l ∧ l ≤ 64) <;> cases sortedB fs <;> cases fs.all rightB <;> rfl
        obtain ⟨r, HR⟩ : ∃ r, Hid (fitB fs = r) := ⟨_, rfl⟩
        rw [HALL.out, HR.out]
        have hEr := EntsV.below HE2.out HB.out (Nat.le_refl _)
        have hle := HB2.out.size
        cases r with
        | false =>
          have HC : Hid _ := blockBytes_wrong ao2 l c2 fs wr hEr HS2.out (by omega) HR.out
          clear hEr
          go_wp2_with fail
          refine Calls.mono HC.out ?_
          rintro e w5 ⟨rfl, hb5⟩
          have HZ : Hid (Below w.heap.size w w5) := (HB2.out.trans (HB.out.mono hle)).trans (hb5.mono (Nat.le_trans hle HB.out.size))
          clear hb5
          go_wp2
          go_ret
          exact ⟨rfl, HZ.out⟩
        | true =>
          have HC : Hid _ := blockBytes_some ao2 l c2 fs wr hEr HS2.out HR.out
          clear hEr
          go_wp2_with fail
          refine Calls.mono HC.out ?_
          rintro e w5 ⟨v5, rfl, hown5, hb5⟩
          have HZ : Hid (Below w.heap.size w w5) := (HB2.out.trans (HB.out.mono hle)).trans (hb5.mono (Nat.le_trans hle HB.out.size))
          clear hb5 hown5
          go_wp2
          go_ret
          exact ⟨rfl, HZ.out⟩
end Go.Proofs.Yteemfhhhdhddhaa
