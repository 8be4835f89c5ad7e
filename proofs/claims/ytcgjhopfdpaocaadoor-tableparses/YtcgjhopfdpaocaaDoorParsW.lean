/-
  What the document's Parse and Seek of blocks answer, and the statement BlockParses, walked.
-/
import Derived.Test.YtcgjhopfdpaocaaDoorRefE
import Derived.Test.YtcgjhopfdpaocaaDoorPartBI
import Derived.Test.YtcgjhopfdpaocaaDoorPartBB
namespace Go.Proofs.YtcgjhopfdpaocaaDoor
open Go.RowKit Go.Sort Go.Shelf
set_option linter.unusedSectionVars false
variable [Inhabited E] [DecidableEq E]
theorem foot_no {n f : Nat} (h : (n - 4) / 4 < f) : ¬ (f + 1) * 4 ≤ n := by omega
theorem foot_z {n f : Nat} (h4 : 4 ≤ n) (hn : n ≤ 10000) (hf : f < 4294967296) : wrap64 ((n : Int) - 4) = ((n - 4 : Nat) : Int) ∧ IntKind.u64.wrap ((n - 4 : Nat) : Int) = ((n - 4 : Nat) : Int) ∧ IntKind.u64.wrap (f : Int) = f ∧ wrap64 (4 * (f : Int)) = 4 * f ∧ ((n - 4 : Nat) : Int) / 4 = (((n - 4) / 4 : Nat) : Int) ∧ ((n - 4 : Nat) : Int) ≤ (n : Int) ∧ (4 : Int) ≤ (n : Int) := by
  unfold wrap64
  rw [IntKind.wrap_u64, IntKind.wrap_u64]
  omega
theorem quo_yes {n f : Nat} (h : (n - 4) / 4 < f) : ((n : Int) - 4) / 4 < (f : Int) := by omega
theorem quo_no {n f : Nat} (h4 : 4 ≤ n) (h : ¬ (n - 4) / 4 < f) : (¬ ((n : Int) - 4) / 4 < (f : Int)) ∧ decide (((n : Int) - 4) / 4 < (f : Int)) = false := by simp; omega
theorem foot_m {n f : Nat} (h4 : 4 ≤ n) (hs : n ≤ 10000) (h : ¬ (n - 4) / 4 < f) : ∃ m : Nat, (n : Int) - 4 - 4 * (f : Int) = (m : Int) ∧ m ≤ n ∧ m = n - (f + 1) * 4 := ⟨n - (f + 1) * 4, by omega, by omega, rfl⟩
theorem bstr_eq {a b : List UInt8} : ((bStr a).toList == (bStr b).toList) = decide (a = b) := by
  rw [ByteArray.toList_eq, ByteArray.toList_eq]
  have h1 : (bStr a).data.toList = a := strB_bStr a
  have h2 : (bStr b).data.toList = b := strB_bStr b
  rw [h1, h2]
  by_cases h : a = b
  · subst h; simp
  · simp [h]
set_option maxRecDepth 100000 in
set_option maxHeartbeats 2000000 in
theorem refParse4_any (bs : List UInt8) (w : World) (hs : bs.length ≤ 10000) :
    Calls Tryd.prog 50 #[.string (bStr bs)] w fun e w' => Below w.heap.size w w' ∧ ParSays bs e w' := by
  have hsz := size_bStr bs
  obtain ⟨n, HN⟩ : ∃ n, Hid (bs.length = n) := ⟨_, rfl⟩
  rw [HN.out] at hsz hs
  by_cases h4 : 4 ≤ n
  case neg =>
    have h4z : (n : Int) < 4 := by omega
    have HNO : Hid (NoBlock bs) := fun l h1 h2 => by have := (foot_block h1 h2).1; rw [HN.out] at this; omega
    go_enter Tryd.func50, Tryd.ntmps50
    go_wp2
    go_ret2
    exact ⟨Below.refl _ _, .inl ⟨rfl, HNO.out⟩⟩
  case pos =>
  have hfl := fixOf_lt (bs.drop (n - 4))
  have CF := fun W => refFixed_any ((bStr bs).extract (n - 4) n) W (by rw [ByteArray.size_extract]; omega)
  have hex : strB ((bStr bs).extract (n - 4) n) = bs.drop (n - 4) := by
    have := strB_from (bStr bs) (n - 4)
    rw [hsz, strB_bStr] at this
    exact this
  rw [hex] at CF
  have HFN : Hid (footN bs = (fixOf (bs.drop (n - 4))).1) := by show _ = _; unfold footN; rw [HN.out]
  obtain ⟨⟨f, okf⟩, HX⟩ : ∃ x, Hid (fixOf (bs.drop (n - 4)) = x) := ⟨_, rfl⟩
  rw [HX.out] at CF hfl HFN
  simp only at hfl
  have HCF : Hid _ := CF
  obtain ⟨z1, z2, z3, z4, z5, z6, z7⟩ := foot_z h4 hs hfl
  have h4z : ¬ (n : Int) < 4 := by omega
  clear CF hex
  have y1 : IntKind.u64.wrap ((n : Int) - 4) = (n : Int) - 4 := by rw [IntKind.wrap_u64]; omega
  clear z1 z2 z5 z6 z7
  go_enter Tryd.func50, Tryd.ntmps50
  go_wp2_with fail
  refine (HCF.out _).mono ?_
  rintro e w1 ⟨rfl, hb1⟩
  have HB1 : Hid _ := hb1
  clear hb1
  by_cases hq : (n - 4) / 4 < f
  case pos =>
    have hqz := quo_yes hq
    have HNO : Hid (NoBlock bs) := fun l h1 h2 => by have h3 := (foot_block h1 h2).2.1; rw [HN.out, HFN.out] at h3; exact foot_no hq h3
    go_wp2
    go_ret2
    exact ⟨HB1.out, .inl ⟨rfl, HNO.out⟩⟩
  case neg =>
  obtain ⟨hqz, hqd⟩ := quo_no h4 hq
  obtain ⟨m, hmz, hmn, HM⟩ := foot_m h4 hs hq
  have hmnz := le_z hmn
  have CE := fun W => refEntries_any ((bStr bs).extract 0 m) W (by rw [ByteArray.size_extract, hsz]; omega)
  have hexm : strB ((bStr bs).extract 0 m) = bs.take m := by
    have := extract_strB (bStr bs) 0 m
    rw [Nat.zero_add] at this
    rw [this, strB_mk, strB_bStr, List.drop_zero]
  rw [hexm] at CE
  have HNB : Hid (∀ l0, fitB l0 = true → blockB l0 = bs → bodyB l0 l0.length = bs.take m) := fun l0 h1 h2 => by
    have h3 := (foot_block h1 h2).2.2
    rw [HN.out, HFN.out, ← HM] at h3
    exact h3
  have HCE : Hid (∀ W, Calls Tryd.prog 72 #[.string ((bStr bs).extract 0 m)] W fun e w' => Below W.heap.size W w' ∧ EntrSays (bs.take m) e w') := CE
  have HSS : Hid (n ≤ 10000) := hs
  clear CE hexm hq HM hmn
  go_wp2_with fail
  refine (HCE.out _).mono ?_
  rintro e w2 ⟨hb2, he⟩
  have HB2 : Hid (Below w.heap.size w w2) := HB1.out.trans (hb2.mono HB1.out.size)
  clear hb2 HCE hqz hqd hmz hmnz z3 z4 y1 h4z h4 hs hfl
  rcases he with ⟨rfl, hno⟩ | ⟨l, ao, c, rfl, hEV, hsm, hl65, hlc, hcc, hun⟩
  · have HNO : Hid (NoBlock bs) := fun l h1 h2 => hno l h1 (HNB.out l h1 h2)
    clear hno
    go_wp2
    go_ret2
    exact ⟨HB2.out, .inl ⟨rfl, HNO.out⟩⟩
  · have HUN : Hid (∀ l0, fitB l0 = true → blockB l0 = bs → l0 = l) := fun l0 h1 h2 => hun l0 h1 (HNB.out l0 h1 h2)
    have HEV : Hid (EntsV w2 ao l.length l) := hEV
    have HCP : Hid (l.length ≤ c ∧ c ≤ 9223372036854775807) := ⟨hlc, hcc⟩
    cases hf : fitB l with
    | false =>
      have HNO : Hid (NoBlock bs) := fun l0 h1 h2 => by
        have := HUN.out l0 h1 h2
        rw [this, hf] at h1
        cases h1
      have HCB : Hid _ := refBlock_wrong ao l.length c l w2 hEV hsm (by omega) hf
      clear hEV hun hf hsm hl65 hlc hcc
      go_wp2_with fail
      refine Calls.mono HCB.out ?_
      rintro e w3 ⟨rfl, hb3⟩
      have HB3 : Hid (Below w.heap.size w w3) := HB2.out.trans (hb3.mono HB2.out.size)
      clear hb3
      go_wp2
      go_ret2
      exact ⟨HB3.out, .inl ⟨rfl, HNO.out⟩⟩
    | true =>
      have HF : Hid (fitB l = true) := hf
      have HCB : Hid _ := refBlock_some ao l.length c l w2 hEV hsm hf
      have hse := @bstr_eq _ _ (blockB l) bs
      clear hEV hun hf hsm hl65 hlc hcc
      go_wp2_with fail
      refine Calls.mono HCB.out ?_
      rintro e w3 ⟨rfl, hb3⟩
      have HB3 : Hid (Below w.heap.size w w3) := HB2.out.trans (hb3.mono HB2.out.size)
      have HEV3 : Hid (EntsV w3 ao l.length l) := HEV.out.below hb3 (Nat.le_refl _)
      clear hb3
      by_cases heq : blockB l = bs
      · have HEQ : Hid _ := heq
        rw [heq, decide_eq_true rfl] at hse
        rw [heq]
        clear heq
        go_wp2
        go_ret2
        exact ⟨HB3.out, .inr ⟨l, ao, c, rfl, ⟨HF.out, HEQ.out, HUN.out⟩, HEV3.out, HCP.out⟩⟩
      · have HNO : Hid (NoBlock bs) := fun l0 h1 h2 => by
          have := HUN.out l0 h1 h2
          rw [this] at h2
          exact heq h2
        rw [decide_eq_false heq] at hse
        clear heq
        go_wp2
        go_ret2
        exact ⟨HB3.out, .inl ⟨rfl, HNO.out⟩⟩
theorem par_two {bs : List UInt8} {e1 e2 : Ending} {w1 w2 : World} (h1 : ParSays bs e1 w1) (h2 : ParSays bs e2 w2) :
    ∃ (l : List E) (ao1 ao2 : Option Addr) (c1 c2 : Nat) (z : Int), e1 = .returned (.tuple #[.slice ao1 l.length c1, .int .i64 z]) ∧ e2 = .returned (.tuple #[.slice ao2 l.length c2, .int .i64 z]) ∧ EntsV w1 ao1 l.length l ∧ EntsV w2 ao2 l.length l ∧ l.length ≤ 64 := by
  rcases h1 with ⟨rfl, hno⟩ | ⟨l, ao, c, rfl, hIB, hEV, _, _⟩
  · rcases h2 with ⟨rfl, _⟩ | ⟨l, ao, c, rfl, hIB, hEV, _, _⟩
    · exact ⟨[], none, none, 0, 0, 2, rfl, rfl, ⟨rfl, fun h => by cases h⟩, ⟨rfl, fun h => by cases h⟩, by simp⟩
    · exact absurd hIB.2.1 (hno l hIB.1)
  · rcases h2 with ⟨rfl, hno⟩ | ⟨l2, ao2, c2, rfl, hIB2, hEV2, _, _⟩
    · exact absurd hIB.2.1 (hno l hIB.1)
    · obtain rfl := hIB.2.2 l2 hIB2.1 hIB2.2.1
      exact ⟨l2, ao, ao2, c, c2, 0, rfl, rfl, hEV, hEV2, (fit_len hIB.1).2⟩
theorem seek_two {bs : List UInt8} {key : ByteArray} {e1 e2 : Ending} (h1 : SeekSays bs key e1) (h2 : SeekSays bs key e2) :
    ∃ (x : E) (f : Bool) (z : Int), e1 = .returned (.tuple #[.agg #[.string x.key, .string x.value, .bool x.del, .int .i64 x.seq], .bool f, .int .i64 z]) ∧ e2 = e1 := by
  rcases h1 with ⟨rfl, hno⟩ | ⟨l, rfl, hIB⟩
  · rcases h2 with ⟨rfl, _⟩ | ⟨l, rfl, hIB⟩
    · exact ⟨⟨ByteArray.empty, ByteArray.empty, false, 0⟩, false, 2, rfl, rfl⟩
    · exact absurd hIB.2.1 (hno l hIB.1)
  · rcases h2 with ⟨rfl, hno⟩ | ⟨l2, rfl, hIB2⟩
    · exact absurd hIB.2.1 (hno l hIB.1)
    · obtain rfl := hIB.2.2 l2 hIB2.1 hIB2.2.1
      unfold seekV
      split
      · exact ⟨l2[belowN key l2]!, true, 0, rfl, rfl⟩
      · exact ⟨⟨ByteArray.empty, ByteArray.empty, false, 0⟩, false, 0, rfl, rfl⟩
end Go.Proofs.YtcgjhopfdpaocaaDoor
