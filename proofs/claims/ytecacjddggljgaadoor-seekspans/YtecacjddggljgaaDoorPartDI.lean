/-
  What the law's two answers: a contract over this translation. Who spans something else shows two texts: the mathematics of spans.
-/
import Derived.Test.YtecacjddggljgaaDoorPartAG
import Derived.Test.YtecacjddggljgaaDoorPartEC
import Derived.Test.YtecacjddggljgaaDoorPartBH
import Derived.Test.YtecacjddggljgaaDoorPartDF
namespace Go.Proofs.YtecacjddggljgaaDoor
open Go.RowKit Go.Sort Go.Shelf
set_option linter.unusedSectionVars false
variable [Inhabited E] [DecidableEq E]
def twoB (z : Int) : Option (List UInt8 × List UInt8) → Bool
  | none => false
  | some p => !(decide (p.1 = p.2)) && (Sm.keptZ z p.1 == Sm.keptZ z p.2)
theorem eq_strs (a b : List UInt8) : ((⟨a.toArray⟩ : ByteArray).toList == (⟨b.toArray⟩ : ByteArray).toList) = decide (a = b) := by
  rw [eq_cmpS]
  refine decide_eq_decide.2 ⟨fun h => ?_, fun h => by rw [h]⟩
  have h2 := congrArg (fun x : ByteArray => x.data.toList) h
  simpa using h2
set_option maxRecDepth 100000 in
set_option maxHeartbeats 4000000 in
theorem two_any (z : Int) (o : Option (List UInt8 × List UInt8)) (ao : Option Addr) (n c : Nat) (bo : Option Addr) (m d : Nat) (w : World) (hA : Sm.TxV w ao n c (Sm.oA o)) (hB : Sm.TxV w bo m d (Sm.oB o)) (hK : Sm.WW w 1 Sm.ks) (hz0 : 1 < w.heap.size) (hz : -9223372036854775808 ≤ z ∧ z ≤ 9223372036854775807) :
    Calls Tryd.prog 34 #[.int .i64 z, .slice ao n c, .slice bo m d, .bool o.isSome] w fun e w' => e = .returned (.bool (twoB z o)) ∧ Below w.heap.size w w' := by
  cases o with
  | none =>
    go_enter Tryd.func34, Tryd.ntmps34
    go_wp2
    go_ret
    exact ⟨rfl, Below.refl _ _⟩
  | some p =>
    obtain ⟨a, b⟩ := p
    simp only [Sm.oA, Sm.oB, Option.isSome_some] at *
    have sa := str_bytes c hA.1
    have sb := str_bytes d hB.1
    have he := eq_strs a b
    obtain ⟨S1, HS1⟩ : ∃ x : ByteArray, Hid ((⟨a.toArray⟩ : ByteArray) = x) := ⟨_, rfl⟩
    obtain ⟨S2, HS2⟩ : ∃ x : ByteArray, Hid ((⟨b.toArray⟩ : ByteArray) = x) := ⟨_, rfl⟩
    rw [HS1.out] at sa he
    rw [HS2.out] at sb he
    have HKA : Hid (∀ V, Below w.heap.size w V → Calls Tryd.prog 67 #[.slice ao n c, .int .i64 z] V fun e w' => e = .returned (.agg (Sm.cellsOf (Sm.keptZ z a)).toArray) ∧ Below V.heap.size V w') := fun V hV => Sm.kept_cap ao n c a z V (Sm.bytes_kept hA.1 hV (Nat.le_refl _)) hA.2.2.1 hA.2.2.2.1 (by have := hA.2.2.2.2; omega) (hK.below hV hz0) (Nat.lt_of_lt_of_le hz0 hV.size) hz.1 hz.2
    have HKB : Hid (∀ V, Below w.heap.size w V → Calls Tryd.prog 67 #[.slice bo m d, .int .i64 z] V fun e w' => e = .returned (.agg (Sm.cellsOf (Sm.keptZ z b)).toArray) ∧ Below V.heap.size V w') := fun V hV => Sm.kept_cap bo m d b z V (Sm.bytes_kept hB.1 hV (Nat.le_refl _)) hB.2.2.1 hB.2.2.2.1 (by have := hB.2.2.2.2; omega) (hK.below hV hz0) (Nat.lt_of_lt_of_le hz0 hV.size) hz.1 hz.2
    have heq := fun W => Sm.equalIn_dig (Sm.keptZ z a) (Sm.keptZ z b) (Sm.keptZ_length z a) (Sm.keptZ_length z b) W
    obtain ⟨R, HR⟩ : ∃ r, Hid (twoB z (some (a, b)) = r) := ⟨_, rfl⟩
    have HRR : Hid (R = (!(decide (a = b)) && (Sm.keptZ z a == Sm.keptZ z b))) := by show _ = _; rw [← HR.out]; rfl
    rw [HR.out]
    obtain ⟨x, HX⟩ : ∃ r, Hid (decide (a = b) = r) := ⟨_, rfl⟩
    obtain ⟨y, HY⟩ : ∃ r, Hid ((Sm.keptZ z a == Sm.keptZ z b) = r) := ⟨_, rfl⟩
    rw [HX.out] at he HRR
    rw [HY.out] at heq HRR
    obtain ⟨ka, HKa⟩ : ∃ x, Hid ((Sm.cellsOf (Sm.keptZ z a)).toArray = x) := ⟨_, rfl⟩
    obtain ⟨kb, HKb⟩ : ∃ x, Hid ((Sm.cellsOf (Sm.keptZ z b)).toArray = x) := ⟨_, rfl⟩
    rw [HKa.out] at HKA heq
    rw [HKb.out] at HKB heq
    have hgd : Tryd.prog.eqGuardType Tryd.prog.depth 46 = false := by kernel_rfl
    clear hA hB hK hz0 hz HR
    go_enter Tryd.func34, Tryd.ntmps34
    cases x with
    | true =>
      have hR : R = false := HRR.out
      subst hR
      go_wp2
      go_ret
      exact ⟨rfl, Below.refl _ _⟩
    | false =>
      have HRY : Hid (R = y) := HRR.out
      go_wp2_with fail
      refine Calls.mono (HKA.out w (Below.refl _ _)) ?_
      rintro e w1 ⟨rfl, hb1⟩
      have HB1 : Hid (Below w.heap.size w w1) := hb1
      clear hb1 HKA
      go_wp2_with fail
      refine Calls.mono (HKB.out w1 HB1.out) ?_
      rintro e w2 ⟨rfl, hb2⟩
      have HB2 : Hid (Below w.heap.size w w2) := HB1.out.trans (hb2.mono HB1.out.size)
      clear hb2 HKB
      cases y with
      | true =>
        have hR : R = true := HRY.out
        subst hR
        go_wp2
        go_ret
        exact ⟨rfl, HB2.out⟩
      | false =>
        have hR : R = false := HRY.out
        subst hR
        go_wp2
        go_ret
        exact ⟨rfl, HB2.out⟩
end Go.Proofs.YtecacjddggljgaaDoor
namespace Go.Proofs.YtecacjddggljgaaDoor
open Go.RowKit Go.Sort Go.Shelf
set_option linter.unusedSectionVars false
variable [Inhabited E] [DecidableEq E]
theorem two_some2 {z : Int} {o : Option (List UInt8 × List UInt8)} (h : ∀ a b, o = some (a, b) → a ≠ b ∧ Sm.keptZ z a = Sm.keptZ z b) (hn : o ≠ none) : twoB z o = true := by
  cases o with
  | none => exact absurd rfl hn
  | some p =>
    obtain ⟨h1, h2⟩ := h p.1 p.2 rfl
    unfold twoB
    simp only [decide_eq_false h1, h2, beq_self_eq_true, Bool.not_false, Bool.and_self]
theorem ks_lt {es : List E} (h : Ks es) {i j : Nat} (hij : i < j) (hj : j < es.length) : cmpS es[i]!.key es[j]!.key < 0 := by
  have h1 := List.pairwise_iff_getElem.1 h i j (by omega) hj hij
  rw [getElem!_pos es i (by omega), getElem!_pos es j hj]
  exact h1
theorem with_mid {es : List E} {lo hi : ByteArray} {x y : Nat} (hxy : x ≤ y) (hy : y ≤ es.length) (h1 : ∀ j, j < x → inB lo hi es[j]! = false) (h2 : ∀ j, y ≤ j → j < es.length → inB lo hi es[j]! = false) : withB lo hi ((es.drop x).take (y - x)) = withB lo hi es := by
  have h0 := part_eq es x y hxy
  have e1 : withB lo hi (es.take x) = [] := by
    unfold withB
    rw [List.filter_eq_nil_iff]
    intro e he
    obtain ⟨i, hi1, rfl⟩ := List.mem_iff_getElem.1 he
    rw [List.length_take] at hi1
    have hc := h1 i (by omega)
    rw [getElem!_pos es i (by omega)] at hc
    rw [List.getElem_take, hc]
    simp
  have e2 : withB lo hi (es.drop y) = [] := by
    unfold withB
    rw [List.filter_eq_nil_iff]
    intro e he
    obtain ⟨i, hi1, rfl⟩ := List.mem_iff_getElem.1 he
    rw [List.length_drop] at hi1
    have hc := h2 (y + i) (by omega) (by omega)
    rw [getElem!_pos es _ (by omega)] at hc
    rw [List.getElem_drop, hc]
    simp
  conv => rhs; rw [h0]
  unfold withB at *
  rw [List.filter_append, List.filter_append, e1, e2, List.nil_append, List.append_nil]
theorem span_math {z : Int} {es : List E} {ls : List Sm.LV} {lo hi : ByteArray} {S : Spn} {got : List E} (hf : fitB es = true) (hb : Sm.bytesL ls = es.map bytesB) (hds : ∀ d ∈ S.ds, d.length = 32) (h : spanO z (Sm.rootD z (es.map bytesB)) (es.length : Int) es[0]!.key es[es.length - 1]!.key lo hi S = some got) :
    got = withB lo hi es ∨ twoB z (Sm.ofR z ls S.ls S.frm S.ds) = true := by
  have hks := fit_ks hf
  have hn := (fit_len hf).2
  have hl : ls.length = es.length := by
    have := congrArg List.length hb
    simpa [Sm.bytesL] using this
  unfold spanO at h
  split at h
  · rename_i hc
    rw [Bool.and_eq_true] at hc
    have hcr : Sm.crB z (Sm.rootD z (Sm.bytesL ls)) (ls.length : Int) S.frm S.ls S.ds = true := by rw [hb, hl]; exact hc.2
    obtain ⟨i, hi0, hpos, hil, h1, h2, -⟩ := Sm.ofR_sound z ls S.ls S.frm S.ds (by omega) hds hcr
    by_cases ho : Sm.ofR z ls S.ls S.frm S.ds = none
    · obtain ⟨h3, -⟩ := h2 ho
      have hp : Sm.bytesL S.ls = ((es.drop i).take S.ls.length).map bytesB := by
        refine List.ext_getElem ?_ (fun j j1 j2 => ?_)
        · rw [Sm.bytesL_len, List.length_map, List.length_take, List.length_drop]; omega
        · rw [Sm.bytesL_len] at j1
          have h4 := h3 j j1
          unfold Sm.bsAt at h4
          rw [hb, List.getD_eq_getElem?_getD, List.getD_eq_getElem?_getD, List.getElem?_eq_getElem (by rw [Sm.bytesL_len]; exact j1), List.getElem?_eq_getElem (by rw [List.length_map]; omega)] at h4
          simp only [Option.getD_some] at h4
          rw [h4]
          simp [List.getElem_take, List.getElem_drop]
      have hpl : ((es.drop i).take S.ls.length).length = S.ls.length := by
        rw [List.length_take, List.length_drop]; omega
      have hg : ∀ j, j < S.ls.length → ((es.drop i).take S.ls.length)[j]! = es[i + j]! := fun j hj => by
        rw [getElem!_pos _ j (by rw [hpl]; exact hj), getElem!_pos es _ (by omega), List.getElem_take, List.getElem_drop]
      rw [hp, soles_right _ (by
        rw [List.all_eq_true]
        intro e he
        exact List.all_eq_true.1 (fit_all hf) e (List.mem_of_mem_drop (List.mem_of_mem_take he)))] at h
      unfold spanM at h
      simp only at h
      split at h
      · rename_i hgd
        cases h
        simp only [Bool.and_eq_true, Bool.not_eq_true', Bool.and_eq_false_iff, decide_eq_false_iff_not] at hgd
        obtain ⟨-, hg1, hg2⟩ := hgd
        rw [hg 0 hpos, hi0, Nat.add_zero] at hg1
        rw [hpl, hg _ (by omega : S.ls.length - 1 < S.ls.length), hi0] at hg2
        refine .inl ?_
        have e1 : S.ls.length = (i + S.ls.length) - i := by omega
        rw [e1]
        refine with_mid (by omega) (by omega) (fun j hj => ?_) (fun j hj1 hj2 => ?_)
        · have hc1 : cmpS es[i]!.key lo < 0 := by
            rcases hg1 with h5 | h5
            · omega
            · have := cmpS_ord.anti es[i]!.key lo; omega
          have hc2 := ks_lt hks hj (by omega : i < es.length)
          have hc3 : cmpS es[j]!.key lo < 0 := cmpS_ord.ltle hc2 (by omega)
          unfold inB
          rw [decide_eq_false (fun h => by have := (cmpS_ord.anti _ _).1 hc3; omega), Bool.false_and]
        · have hc1 : belB es[i + (S.ls.length - 1)]!.key hi = false := by
            rcases hg2 with h5 | h5
            · omega
            · exact h5
          have hc2 := ks_lt hks (by omega : i + (S.ls.length - 1) < j) hj2
          unfold belB at hc1
          simp only [Bool.or_eq_false_iff, decide_eq_false_iff_not] at hc1
          have hc3 : ¬ cmpS es[j]!.key hi < 0 := fun h => by
            have h6 := cmpS_ord.ltle hc2 (by omega : cmpS es[j]!.key hi ≤ 0)
            exact hc1.2 h6
          unfold inB belB
          rw [decide_eq_false hc1.1, decide_eq_false hc3]
          simp
      · cases h
    · exact .inr (two_some2 h1 ho)
  · cases h
end Go.Proofs.YtecacjddggljgaaDoor
