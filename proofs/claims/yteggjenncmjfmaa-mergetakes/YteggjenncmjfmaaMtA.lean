/-
  The document's least key of some lists.
-/
import Derived.Test.YteggjenncmjfmaaMgU
namespace Go.Proofs.Yteggjenncmjfmaa
open Go.RowKit
set_option linter.unusedSectionVars false
set_option linter.unusedVariables false
variable [Inhabited E] [DecidableEq E] [Inhabited RV]
def oK : Option E → ByteArray
  | none => ⟨#[]⟩
  | some e => e.key
theorem lstep_nil (o : Option E) : lstep o [] = o := rfl
theorem lstep_none (e : E) (t : List E) : lstep none (e :: t) = some e := rfl
theorem lstep_some (x e : E) (t : List E) : lstep (some x) (e :: t) = if cmpS e.key x.key < 0 then some e else some x := rfl
set_option maxRecDepth 100000 in
set_option maxHeartbeats 1000000 in
theorem least_any (ao : Option Addr) (n c : Nat) (R : List RV) (w : World) (h : ListsV w ao n R) (hn : n ≤ 1000000) :
    Calls Try.prog 22 #[.slice ao n c] w fun e w' => e = .returned (.tuple #[.string (oK (leastE (R.map RV.l))), .bool (leastE (R.map RV.l)).isSome]) ∧ w' = w := by
  have HL : Hid (ListsV w ao n R) := h
  have hn6 : (n : Int) ≤ 1000000 := by omega
  clear h
  go_enter Try.func22, Try.ntmps22
  go_wp2_with fail
  go_loopw [4, 5, 6] (fun s4 s5 s6 wr => ∃ (i : Nat) (k : ByteArray) (f : Bool), s6 = .int .i64 i ∧ i ≤ n ∧ s4 = .string k ∧ s5 = .bool f ∧ Hid (oK (leastE ((R.map RV.l).take i)) = k ∧ (leastE ((R.map RV.l).take i)).isSome = f) ∧ w = wr) (fun _ _ s6 _ => n - (intOf s6).toNat)
  case atStart => exact ⟨0, _, false, rfl, Nat.zero_le _, rfl, rfl, ⟨rfl, rfl⟩, rfl⟩
  case round =>
    obtain ⟨i, k, f, rfl, hin, rfl, rfl, HK, rfl⟩ := hrel
    have hRl : (R.map RV.l).length = n := by rw [List.length_map, HL.out.1]
    by_cases hlt : i < n
    · have hltz : (i : Int) < (n : Int) := by omega
      obtain ⟨b, off, rfl, hcell⟩ := HL.out.2.2.2 (by omega)
      have c0 := hcell i hlt
      have hmem : R[i]! ∈ R := by rw [getElem!_pos R i (by rw [HL.out.1]; exact hlt)]; exact List.getElem_mem _
      have HRR : Hid (RIn w R[i]!) := HL.out.2.1 _ hmem
      have HSN : Hid (leastE ((R.map RV.l).take (i + 1)) = lstep (leastE ((R.map RV.l).take i)) R[i]!.l) := by
        show _ = _
        rw [take_snoc (R.map RV.l) i (by rw [hRl]; exact hlt), leastE_snoc, getElem!_pos (R.map RV.l) i (by rw [hRl]; exact hlt), List.getElem_map, ← getElem!_pos R i (by rw [HL.out.1]; exact hlt)]
      obtain ⟨o, HO⟩ : ∃ x, Hid (leastE ((R.map RV.l).take i) = x) := ⟨_, rfl⟩
      rw [HO.out] at HSN HK
      obtain ⟨r, HRI⟩ : ∃ r, Hid (R[i]! = r) := ⟨_, rfl⟩
      rw [HRI.out] at c0 HRR HSN
      clear hcell hmem hRl
      cases hl : r.l with
      | nil =>
        rw [hl] at HSN
        have hz : r.n = 0 := by have := HRR.out.1.1; rw [hl] at this; exact this.symm
        obtain ⟨ra, ro, rn, rc, rl⟩ := r
        simp only at hz c0 hl
        subst hz
        clear hl
        go_wp2_with fail
        go_roundw
        case rel => exact ⟨i + 1, k, f, by go_num, by omega, rfl, rfl, ⟨by rw [HSN.out]; exact HK.out.1, by rw [HSN.out]; exact HK.out.2⟩, trivial⟩
        case measure => simp [intOf]; omega
      | cons x t =>
        obtain ⟨pb, poff, hro, hrn, q0, -, -, -⟩ := row_cells HRR.out hl
        rw [hl] at HSN
        obtain ⟨ra, ro, rn, rc, rl⟩ := r
        simp only at hro hrn c0 hl
        subst hro
        obtain ⟨xk, HXK⟩ : ∃ y, Hid (x.key = y) := ⟨_, rfl⟩
        rw [HXK.out] at q0
        have hrnz : (0 : Int) < (rn : Int) := by omega
        clear hl
        cases o with
        | none =>
          obtain rfl : f = false := HK.out.2.symm
          have HN : Hid (oK (leastE ((R.map RV.l).take (i + 1))) = xk ∧ (leastE ((R.map RV.l).take (i + 1))).isSome = true) := by rw [HSN.out, lstep_none]; exact ⟨HXK.out, rfl⟩
          go_wp2_with fail
          go_roundw
          case rel => exact ⟨i + 1, xk, true, by go_num, by omega, rfl, rfl, HN.out, trivial⟩
          case measure => simp [intOf]; omega
        | some y =>
          obtain rfl : f = true := HK.out.2.symm
          have HY : Hid (y.key = k) := HK.out.1
          have e1 := less_cmpS xk k
          by_cases h1 : cmpS xk k < 0
          · have e1' : Op.bytesLess xk.toList k.toList = true := by rw [e1]; exact decide_eq_true h1
            have HN : Hid (oK (leastE ((R.map RV.l).take (i + 1))) = xk ∧ (leastE ((R.map RV.l).take (i + 1))).isSome = true) := by rw [HSN.out, lstep_some, HXK.out, HY.out, if_pos h1]; exact ⟨HXK.out, rfl⟩
            clear e1
            go_wp2_with fail
            go_roundw
            case rel => exact ⟨i + 1, xk, true, by go_num, by omega, rfl, rfl, HN.out, trivial⟩
            case measure => simp [intOf]; omega
          · have e1' : Op.bytesLess xk.toList k.toList = false := by rw [e1]; exact decide_eq_false h1
            have HN : Hid (oK (leastE ((R.map RV.l).take (i + 1))) = k ∧ (leastE ((R.map RV.l).take (i + 1))).isSome = true) := by rw [HSN.out, lstep_some, HXK.out, HY.out, if_neg h1]; exact ⟨HY.out, rfl⟩
            clear e1
            go_wp2_with fail
            go_roundw
            case rel => exact ⟨i + 1, k, true, by go_num, by omega, rfl, rfl, HN.out, trivial⟩
            case measure => simp [intOf]; omega
    · have hltz : ¬ (i : Int) < (n : Int) := by omega
      have HF : Hid (oK (leastE (R.map RV.l)) = k ∧ (leastE (R.map RV.l)).isSome = f) := by have h1 := HK.out; rw [List.take_of_length_le (by omega)] at h1; exact h1
      clear hlt hRl
      go_wp2_with fail
      go_ret2
      exact ⟨by rw [HF.out.1, HF.out.2]; rfl, rfl⟩
end Go.Proofs.Yteggjenncmjfmaa
