/-
  What the document's Parse and Seek of blocks answer, and the statement BlockParses, walked.
-/
import Derived.Test.YteemfhhhdhddhaaRefE
import Derived.Test.YteemfhhhdhddhaaBBytes
import Derived.Test.YteemfhhhdhddhaaNextW
namespace Go.Proofs.Yteemfhhhdhddhaa
open Go.RowKit Go.Sort Go.Shelf
set_option linter.unusedSectionVars false
variable [Inhabited E] [DecidableEq E]
theorem foot_no {n f : Nat} (h : (n - 4) / 4 < f) : ¬ (f + 1) * 4 ≤ n := by omega
theorem foot_z {n f : Nat} (h4 : 4 ≤ n) (hn : n ≤ 10000) (hf : f < 4294967296) : wrap64 ((n : Int) - 4) = ((n - 4 : Nat) : Int) ∧ IntKind.u64.wrap ((n - 4 : Nat) : Int) = ((n - 4 : Nat) : Int) ∧ IntKind.u64.wrap (f : Int) = f ∧ wrap64 (4 * (f : Int)) = 4 * f ∧ ((n - 4 : Nat) : Int) / 4 = (((n - 4) / 4 : Nat) : Int) ∧ ((n - 4 : Nat) : Int) ≤ (n : Int) ∧ (4 : Int) ≤ (n : Int) := by
  unfold wrap64
  rw [IntKind.wrap_u64, IntKind.wrap_u64]
  omega
theorem quo_yes {n f : Nat} (h : (n - 4) / 4 < f) : ((n : Int) - 4) / 4 < (f : Int) := by omega
theorem quo_no {n f : Nat} (h4 : 4 ≤ n) (h : ¬ (n - 4) / 4 < f) : (¬ ((n : Int) - 4) / 4 < (f : Int)) ∧ decide (((n : Int) - 4) / 4 < (f : Int)) = false := by simp; omega
theorem foot_m {n f : Nat} (h4 : 4 ≤ n) (hs : n ≤ 10000) (h : ¬ (n - 4) / 4 < f) : ∃ m : Nat, (n : Int) - 4 - 4 * (f : Int) = (m : Int) ∧ m ≤ n ∧ m = n - (f + 1) * 4 := ⟨n - (f + 1) * 4, by omega, by omega, rfl⟩
theorem bstr_eq {a b : List UInt8} : ((bStr a).toList == (bStr b).toList) = decide (a = b) := by
  rw [ByteArray.toList_eq, ByteArray.toList_eq]
  have h1 : (bStr a).data.toList = a := strB_bStr a
  have h2 : (bStr b).data.toList = b := strB_bStr b
  rw [h1, h2]
  by_cases h : a = b
  · subst h; simp
  · simp [h]
set_option maxRecDepth 100000 in
set_option maxHeartbeats 2000000 in
theorem refParse4_any (bs : List UInt8) (w : World) (hs : bs.length ≤ 10000) :
    Calls Try.prog 41 #[.string (bStr bs)] w fun e w' => Below w.heap.size w w' ∧ ParSays bs e w' := by
  have hsz := size_bStr bs
  obtain ⟨n, HN⟩ : ∃ n, Hid (bs.length = n) := ⟨_, rfl⟩
  rw [HN.out] at hsz hs
  by_cases h4 : 4 ≤ n
  case neg =>
    have h4z : (n : Int) < 4 := by omega
    have HNO : Hid (NoBlock bs) := fun l h1 h2 => by have := (foot_block h1 h2).1; rw [HN.out] at this; omega
    go_enter Try.func41, Try.ntmps41
    go_wp2
    go_ret2
    exact ⟨Below.refl _ _, .inl ⟨rfl, HNO.out⟩⟩
  case pos =>
  have hfl := fixOf_lt (bs.drop (n - 4))
  have CF := fun W => refFixed_any ((bStr bs).extract (n - 4) n) W (by rw [ByteArray.size_extract]; omega)
  have hex : strB ((bStr bs).extract (n - 4) n) = bs.drop (n - 4) := by
    have := strB_from (bStr bs) (n - 4)
    rw [hsz, strB_bStr] at this
    exact this
  rw [hex] at CF
  have HFN : Hid (footN bs = (fixOf (bs.drop (n - 4))).1) := by show _ = _; unfold footN; rw [HN.out]
  obtain ⟨⟨f, okf⟩, HX⟩ : ∃ x, Hid (fixOf (bs.drop (n - 4)) = x) := ⟨_, rfl⟩
  rw [HX.out] at CF hfl HFN
  simp only at hfl
  have HCF : Hid _ := CF
  obtain ⟨z1, z2, z3, z4, z5, z6, z7⟩ := foot_z h4 hs hfl
  have h4z : ¬ (n : Int) < 4 := by omega
  clear CF hex
  have y1 : IntKind.u64.wrap ((n : Int) - 4) = (n : Int) - 4 := by rw [IntKind.wrap_u64]; omega
  clear z1 z2 z5 z6 z7
  go_enter Try.func41, Try.ntmps41
  go_wp2_with fail
  refine (HCF.out _).mono ?_
  rintro e w1 ⟨rfl, hb1⟩
  have HB1 : Hid _ := hb1
  clear hb1
  by_cases hq : (n - 4) / 4 < f
  case pos =>
    have hqz := quo_yes hq
    have HNO : Hid (NoBlock bs) := fun l h1 h2 => by have h3 := (foot_block h1 h2).2.1; rw [HN.out, HFN.out] at h3; exact foot_no hq h3
    go_wp2
    go_ret2
    exact ⟨HB1.out, .inl ⟨rfl, HNO.out⟩⟩
  case neg =>
  obtain ⟨hqz, hqd⟩ := quo_no h4 hq
  obtain ⟨m, hmz, hmn, HM⟩ := foot_m h4 hs hq
  have hmnz := le_z hmn
  have CE := fun W => refEntries_any ((bStr bs).extract 0 m) W (by rw [ByteArray.size_extract, hsz]; omega)
  have hexm : strB ((bStr bs).extract 0 m) = bs.take m := by
    have := extract_strB (bStr bs) 0 m
    rw [Nat.zero_add] at this
    rw [this, strB_mk, strB_bStr, List.drop_zero]
  rw [hexm] at CE
  have HNB : Hid (∀ l0, fitB l0 = true → blockB l0 = bs → bodyB l0 l0.length = bs.take m) := fun l0 h1 h2 => by
    have h3 := (foot_block h1 h2).2.2
    rw [HN.out, HFN.out, ← HM] at h3
    exact h3
  have HCE : Hid (∀ W, Calls Try.prog 67 #[.string ((bStr bs).extract 0 m)] W fun e w' => Below W.heap.size W w' ∧ EntrSays (bs.take m) e w') := CE
  have HSS : Hid (n ≤ 10000) := hs
  clear CE hexm hq HM hmn
  go_wp2_with fail
  refine (HCE.out _).mono ?_
  rintro e w2 ⟨hb2, he⟩
  have HB2 : Hid (Below w.heap.size w w2) := HB1.out.trans (hb2.mono HB1.out.size)
  clear hb2 HCE hqz hqd hmz hmnz z3 z4 y1 h4z h4 hs hfl
  rcases he with ⟨rfl, hno⟩ | ⟨l, ao, c, rfl, hEV, hsm, hl65, hlc, hcc, hun⟩
  · have HNO : Hid (NoBlock bs) := fun l h1 h2 => hno l h1 (HNB.out l h1 h2)
    clear hno
    go_wp2
    go_ret2
    exact ⟨HB2.out, .inl ⟨rfl, HNO.out⟩⟩
  · have HUN : Hid (∀ l0, fitB l0 = true → blockB l0 = bs → l0 = l) := fun l0 h1 h2 => hun l0 h1 (HNB.out l0 h1 h2)
    have HEV : Hid (EntsV w2 ao l.length l) := hEV
    have HCP : Hid (l.length ≤ c ∧ c ≤ 9223372036854775807) := ⟨hlc, hcc⟩
    cases hf : fitB l with
    | false =>
      have HNO : Hid (NoBlock bs) := fun l0 h1 h2 => by
        have := HUN.out l0 h1 h2
        rw [this, hf] at h1
        cases h1
      have HCB : Hid _ := refBlock_wrong ao l.length c l w2 hEV hsm (by omega) hf
      clear hEV hun hf hsm hl65 hlc hcc
      go_wp2_with fail
      refine Calls.mono HCB.out ?_
      rintro e w3 ⟨rfl, hb3⟩
      have HB3 : Hid (Below w.heap.size w w3) := HB2.out.trans (hb3.mono HB2.out.size)
      clear hb3
      go_wp2
      go_ret2
      exact ⟨HB3.out, .inl ⟨rfl, HNO.out⟩⟩
    | true =>
      have HF : Hid (fitB l = true) := hf
      have HCB : Hid _ := refBlock_some ao l.length c l w2 hEV hsm hf
      have hse := @bstr_eq _ _ (blockB l) bs
      clear hEV hun hf hsm hl65 hlc hcc
      go_wp2_with fail
      refine Calls.mono HCB.out ?_
      rintro e w3 ⟨rfl, hb3⟩
      have HB3 : Hid (Below w.heap.size w w3) := HB2.out.trans (hb3.mono HB2.out.size)
      have HEV3 : Hid (EntsV w3 ao l.length l) := HEV.out.below hb3 (Nat.le_refl _)
      clear hb3
      by_cases heq : blockB l = bs
      · have HEQ : Hid _ := heq
        rw [heq, decide_eq_true rfl] at hse
        rw [heq]
        clear heq
        go_wp2
        go_ret2
        exact ⟨HB3.out, .inr ⟨l, ao, c, rfl, ⟨HF.out, HEQ.out, HUN.out⟩, HEV3.out, HCP.out⟩⟩
      · have HNO : Hid (NoBlock bs) := fun l0 h1 h2 => by
          have := HUN.out l0 h1 h2
          rw [this] at h2
          exact heq h2
        rw [decide_eq_false heq] at hse
        clear heq
        go_wp2
        go_ret2
        exact ⟨HB3.out, .inl ⟨rfl, HNO.out⟩⟩
set_option maxRecDepth 100000 in
set_option maxHeartbeats 2000000 in
theorem refSeek_any (bs : List UInt8) (key : ByteArray) (w : World) (hs : bs.length ≤ 10000) :
    Calls Try.prog 43 #[.string (bStr bs), .string key] w fun e w' => Below w.heap.size w w' ∧ SeekSays bs key e := by
  have HCP : Hid (∀ W, Calls Try.prog 41 #[.string (bStr bs)] W fun e w' => Below W.heap.size W w' ∧ ParSays bs e w') := fun W => refParse4_any bs W hs
  clear hs
  go_enter Try.func43, Try.ntmps43
  go_wp2_with fail
  refine (HCP.out _).mono ?_
  rintro e w1 ⟨hb1, he⟩
  have hR : w1.heap[w.heap.size]? = some (.cells #[.string ByteArray.empty, .string ByteArray.empty, .bool false, .int .i64 0] 23 (0, 0)) := by
    rw [hb1.block w.heap.size (by simp)]; exact heap_alloc_new w _
  have HR : Hid _ := hR
  have HB1 : Hid (Below w.heap.size w w1) := (bel_alloc w _).trans (hb1.mono (by simp))
  have r0 : w1.cell? ⟨w.heap.size, 0, none⟩ = some (.string ByteArray.empty) := by simp [World.cell?, hR]
  have r1 : w1.cell? ⟨w.heap.size, 1, none⟩ = some (.string ByteArray.empty) := by simp [World.cell?, hR]
  have r2 : w1.cell? ⟨w.heap.size, 2, none⟩ = some (.bool false) := by simp [World.cell?, hR]
  have r3 : w1.cell? ⟨w.heap.size, 3, none⟩ = some (.int .i64 0) := by simp [World.cell?, hR]
  have y0 : ∀ j, w1.frozen? ⟨w.heap.size, j, none⟩ = false := fun j => by simp [World.frozen?, hR]
  clear hb1 hR HCP
  rcases he with ⟨rfl, hno⟩ | ⟨l, ao', c', rfl, hIB, hEV, hl, hcl⟩
  · have HNO : Hid (NoBlock bs) := hno
    clear hno
    go_wp2
    refine bodyPost_ret (results_entry3 rfl _ _ w.heap.size 23 _ _ rfl (heap_four _ _ _ _ _ _ _ _ _ _ _ HR.out) (by exact size23)) rfl ?_
    exact ⟨bel_four HB1.out (Nat.le_refl _) _ _ _ _, .inl ⟨rfl, HNO.out⟩⟩
  · have HIB : Hid (IsBlock bs l) := hIB
    have HKS : Hid (Ks l) := fit_ks hIB.1
    have hle := belowN_le key l
    obtain ⟨L, HLL⟩ : ∃ L, Hid (l.length = L) := ⟨_, rfl⟩
    obtain ⟨p, HP⟩ : ∃ p, Hid (belowN key l = p) := ⟨_, rfl⟩
    have HPL : Hid (∀ i, i < L → (cmpS l[i]!.key key < 0 ↔ i < p)) := by intro i hi; rw [← HP.out]; exact ks_place key HKS.out i (by rw [HLL.out]; exact hi)
    have HEV : Hid (EntsV w1 ao' l.length l) := hEV
    have hL64 := (fit_len hIB.1).2
    rw [HLL.out] at hl hle HEV hL64 ⊢
    rw [HP.out] at hle
    have HLE : Hid (p ≤ L) := hle
    clear hIB hEV hle hl hcl
    go_wp2_with fail
    go_loopw [9] (fun x wr => ∃ i : Nat, x = .int .i64 i ∧ i ≤ p ∧ wr = w1) (fun x _ => L - (intOf x).toNat)
    case atStart => exact ⟨0, rfl, Nat.zero_le _, rfl⟩
    case round =>
      obtain ⟨i, rfl, hi, rfl⟩ := hrel
      by_cases hlt : i < L
      · have hltz := lt_z hlt
        obtain ⟨b, off, hao, hEn⟩ := HEV.out.2 (Nat.lt_of_le_of_lt (Nat.zero_le _) hlt)
        subst hao
        obtain ⟨k0, v0, d0, q0, HX⟩ : ∃ k0 v0 d0 q0, Hid (l[i]! = E.mk k0 v0 d0 q0) := ⟨_, _, _, _, rfl⟩
        obtain ⟨c0, c1, c2, c3⟩ := ents_four hEn i (by rw [HLL.out]; exact hlt) HX.out
        have hcm := HPL.out i hlt
        rw [HX.out] at hcm
        have hless := less_cmpS k0 key
        clear hEn
        by_cases hip : i < p
        · rw [decide_eq_true (hcm.2 hip)] at hless
          have HIP : Hid (i < p) := hip
          clear hcm hip
          go_wp2
          go_roundw
          case rel => exact ⟨i + 1, by go_num, HIP.out, trivial⟩
          case measure => simp [intOf]; omega
        · rw [decide_eq_false (fun h => hip (hcm.1 h))] at hless
          have HIP : Hid (i = p) := Nat.le_antisymm hi (Nat.le_of_not_lt hip)
          have HSV : Hid (seekV l key = .tuple #[.agg (encE l[i]!).toArray, .bool true, .int .i64 0]) := by show _ = _; unfold seekV; rw [HP.out, HLL.out, HIP.out.symm, if_pos hlt]
          clear hcm hip hi
          go_wp2
          (try simp only [Exit.inBlock, Exit.then])
          refine bodyPost_ret (results_entry3 rfl _ _ w.heap.size 23 _ _ rfl (heap_four _ _ _ _ _ _ _ _ _ _ _ HR.out) (by exact size23)) rfl ?_
          refine ⟨bel_four HB1.out (Nat.le_refl _) _ _ _ _, .inr ⟨l, ?_, HIB.out⟩⟩
          rw [HSV.out, HX.out]
          rfl
      · have hltz := nlt_z hlt
        have HSV : Hid (seekV l key = .tuple #[zeroE, .bool false, .int .i64 0]) := by
          show _ = _
          unfold seekV
          rw [HP.out, HLL.out, if_neg (by have := HLE.out; omega)]
        clear hlt hi
        go_wp2
        (try simp only [Exit.inBlock, Exit.then])
        refine bodyPost_ret (results_entry3 rfl _ _ w.heap.size 23 _ _ rfl (heap_four _ _ _ _ _ _ _ _ _ _ _ HR.out) (by exact size23)) rfl ?_
        refine ⟨bel_four HB1.out (Nat.le_refl _) _ _ _ _, .inr ⟨l, ?_, HIB.out⟩⟩
        rw [HSV.out]
        rfl
theorem par_two {bs : List UInt8} {e1 e2 : Ending} {w1 w2 : World} (h1 : ParSays bs e1 w1) (h2 : ParSays bs e2 w2) :
    ∃ (l : List E) (ao1 ao2 : Option Addr) (c1 c2 : Nat) (z : Int), e1 = .returned (.tuple #[.slice ao1 l.length c1, .int .i64 z]) ∧ e2 = .returned (.tuple #[.slice ao2 l.length c2, .int .i64 z]) ∧ EntsV w1 ao1 l.length l ∧ EntsV w2 ao2 l.length l ∧ l.length ≤ 64 := by
  rcases h1 with ⟨rfl, hno⟩ | ⟨l, ao, c, rfl, hIB, hEV, _, _⟩
  · rcases h2 with ⟨rfl, _⟩ | ⟨l, ao, c, rfl, hIB, hEV, _, _⟩
    · exact ⟨[], none, none, 0, 0, 2, rfl, rfl, ⟨rfl, fun h => by cases h⟩, ⟨rfl, fun h => by cases h⟩, by simp⟩
    · exact absurd hIB.2.1 (hno l hIB.1)
  · rcases h2 with ⟨rfl, hno⟩ | ⟨l2, ao2, c2, rfl, hIB2, hEV2, _, _⟩
    · exact absurd hIB.2.1 (hno l hIB.1)
    · obtain rfl := hIB.2.2 l2 hIB2.1 hIB2.2.1
      exact ⟨l2, ao, ao2, c, c2, 0, rfl, rfl, hEV, hEV2, (fit_len hIB.1).2⟩
theorem seek_two {bs : List UInt8} {key : ByteArray} {e1 e2 : Ending} (h1 : SeekSays bs key e1) (h2 : SeekSays bs key e2) :
    ∃ (x : E) (f : Bool) (z : Int), e1 = .returned (.tuple #[.agg #[.string x.key, .string x.value, .bool x.del, .int .i64 x.seq], .bool f, .int .i64 z]) ∧ e2 = e1 := by
  rcases h1 with ⟨rfl, hno⟩ | ⟨l, rfl, hIB⟩
  · rcases h2 with ⟨rfl, _⟩ | ⟨l, rfl, hIB⟩
    · exact ⟨⟨ByteArray.empty, ByteArray.empty, false, 0⟩, false, 2, rfl, rfl⟩
    · exact absurd hIB.2.1 (hno l hIB.1)
  · rcases h2 with ⟨rfl, hno⟩ | ⟨l2, rfl, hIB2⟩
    · exact absurd hIB.2.1 (hno l hIB.1)
    · obtain rfl := hIB.2.2 l2 hIB2.1 hIB2.2.1
      unfold seekV
      split
      · exact ⟨l2[belowN key l2]!, true, 0, rfl, rfl⟩
      · exact ⟨⟨ByteArray.empty, ByteArray.empty, false, 0⟩, false, 0, rfl, rfl⟩
set_option maxRecDepth 100000 in
set_option maxHeartbeats 4000000 in
theorem parses_walk (ao : Option Addr) (n c : Nat) (bs : List UInt8) (key : ByteArray) (w : World) (hb : Bytes w ao n bs) (h0 : ao = none → c = 0) (hnc : n ≤ c) (_hc : c ≤ 9223372036854775807) :
    Calls Try.prog 12 #[.slice ao n c, .string key] w fun e w' => e = .returned (.bool true) ∧ Below w.heap.size w w' := by
  obtain ⟨m, hm⟩ : ∃ m, m = min n 5000 := ⟨_, rfl⟩
  have hz : min (n : Int) 5000 = (m : Int) := by omega
  have hmc : (m : Int) ≤ (c : Int) := by omega
  have hmn : m ≤ n := by omega
  have hm5 : m ≤ 5000 := by omega
  clear hm
  have HBT : Hid (Bytes w ao m (bs.take m)) := bytes_take hb m hmn
  obtain ⟨cs, HCS⟩ : ∃ cs, Hid (bs.take m = cs) := ⟨_, rfl⟩
  rw [HCS.out] at HBT
  have H0 : Hid (ao = none → c = 0) := h0
  clear hb h0
  go_enter Try.func12, Try.ntmps12
  go_wp2_with fail
  refine (shown4_any w).mono ?_
  rintro e w1 ⟨rfl, hb1⟩
  have HB1 : Hid _ := hb1
  clear hb1
  have HO1 : Hid ((w1.alloc (.cells #[] 5)).ownsRow w1.heap.size 5 1 (.slice (some ⟨w1.heap.size, 0, none⟩) 0 0) 0 (cellsOf [])) := own_empty w1
  have HBA : Hid (Bytes (w1.alloc (.cells #[] 5)) ao m cs) := bytes_kept (bytes_kept HBT.out HB1.out (Nat.le_refl _)) (bel_alloc w1 _) (Nat.le_refl _)
  go_wp2_with (at_builtin; refine wpList_append_copy _ rfl (.tmp 24) (.tmp 25) rfl w1.heap.size _ rfl HO1.out (by simp) ao m c cs rfl HBA.out H0.out (by omega) ?_)
  intro ao2 c2 w2 hby2 hlc2 hcc2 _ hb2
  have HBW2 : Hid (Below w.heap.size w w2) := HB1.out.trans (((bel_alloc w1 _).trans hb2).mono HB1.out.size)
  have HBY2 : Hid (Bytes w2 ao2 m cs) := hby2
  have CP := parseb_any ao2 m c2 cs w2 hby2 hlc2 hcc2 (by omega)
  have HCP : Hid _ := CP
  have HLC : Hid (m ≤ c2 ∧ c2 ≤ 9223372036854775807) := ⟨hlc2, hcc2⟩
  have HM5 : Hid (m ≤ 5000) := hm5
  have HCL : Hid (cs.length ≤ 10000) := by show _ ≤ _; rw [hby2.1]; omega
  clear CP hby2 hb2 HO1 HBA hlc2 hcc2
  go_wp2_with fail
  refine Calls.mono HCP.out ?_
  rintro e w3 ⟨hb3, he3⟩
  have HB3 : Hid (Below w2.heap.size w2 w3) := hb3
  have hs1 := str_bytes c (bytes_kept HBT.out (HBW2.out.trans (hb3.mono HBW2.out.size)) (Nat.le_refl _))
  have CR := refParse4_any cs w3 HCL.out
  have HCR : Hid (Calls Try.prog 41 #[.string ⟨cs.toArray⟩] w3 fun e w' => Below w3.heap.size w3 w' ∧ ParSays cs e w') := CR
  have HE3 : Hid _ := he3
  obtain ⟨v3, HV3⟩ : ∃ v, Hid (e = .returned v) := by
    rcases he3 with ⟨h, _⟩ | ⟨_, _, _, h, _⟩ <;> exact ⟨_, h⟩
  obtain ⟨z1, z2, HV3'⟩ : ∃ z1 z2, Hid (v3 = .tuple #[z1, z2]) := by
    rcases he3 with ⟨h, _⟩ | ⟨_, _, _, h, _⟩ <;> (rw [HV3.out] at h; injection h with h; exact ⟨_, _, h⟩)
  obtain rfl : e = .returned (.tuple #[z1, z2]) := by rw [HV3.out, HV3'.out]
  clear CR hb3 HCP he3 HV3 HV3' hz hmc hmn hm5 hnc
  go_wp2_with fail
  refine Calls.mono HCR.out ?_
  rintro e w4 ⟨hb4, he4⟩
  obtain ⟨l, ao3, ao4, c3, c4, z, h31, rfl, hE3, hE4, hl64⟩ := par_two HE3.out he4
  injection h31 with h31
  injection h31 with h31
  obtain ⟨rfl, rfl⟩ : z1 = .slice ao3 l.length c3 ∧ z2 = .int .i64 z := by simpa using h31
  have CS := same_any ao3 l.length c3 l ao4 l.length c4 l w4 (hE3.below hb4 (Nat.le_refl _)) hE4 (by omega) (by omega)
  rw [show decide (l = l) = true from decide_eq_true rfl] at CS
  have HCS2 : Hid _ := CS
  have HB4 : Hid (Below w2.heap.size w2 w4) := HB3.out.trans (hb4.mono HB3.out.size)
  clear CS hb4 he4 h31 hE3 hE4 HCR HE3 hl64 hs1
  go_wp2_with fail
  refine Calls.mono HCS2.out ?_
  rintro e w5 ⟨rfl, hb5⟩
  have HB5 : Hid (Below w2.heap.size w2 w5) := HB4.out.trans (hb5.mono HB4.out.size)
  clear hb5 HCS2
  have HSK : Hid _ := seek_any ao2 m c2 cs key w5 (bytes_kept HBY2.out HB5.out (Nat.le_refl _)) HLC.out.1 HLC.out.2 (Nat.le_trans HM5.out (by decide))
  go_wp2_with fail
  refine Calls.mono HSK.out ?_
  rintro e w6 ⟨hb6, he6⟩
  obtain ⟨x, f, y, rfl, -⟩ := seek_two he6 he6
  have HE6 : Hid _ := he6
  obtain ⟨k0, v0, d0, q0⟩ := x
  simp only at HE6 ⊢
  have HB6 : Hid (Below w2.heap.size w2 w6) := HB5.out.trans (hb6.mono HB5.out.size)
  have hs2 := fun o => str_bytes c (bytes_kept (bytes_kept HBT.out (HBW2.out.trans (HB6.out.mono HBW2.out.size)) (Nat.le_refl _)) (bel_alloc w6 o) (Nat.le_refl _))
  have HCK : Hid (∀ W, Calls Try.prog 43 #[.string ⟨cs.toArray⟩, .string key] W fun e w' => Below W.heap.size W w' ∧ SeekSays cs key e) := fun W => refSeek_any cs key W HCL.out
  clear hb6 he6 HSK
  go_wp2_with fail
  refine (HCK.out _).mono ?_
  rintro e w7 ⟨hb7, he7⟩
  obtain ⟨-, -, -, -, rfl⟩ := seek_two HE6.out he7
  have hblk : w7.heap[w6.heap.size]? = some (Obj.cells #[.string k0, .string v0, .bool d0, .int .i64 q0] 23) := by rw [hb7.block _ (by simp)]; exact heap_alloc_new w6 _
  have HBK : Hid _ := hblk
  have HB7 : Hid (Below w2.heap.size w2 w7) := HB6.out.trans (((bel_alloc w6 _).trans (hb7.mono (by simp))).mono HB6.out.size)
  have e0 := fun o => bel_cell (a := ⟨w6.heap.size, 0, none⟩) (v := .string k0) (bel_alloc w7 o) (Nat.le_refl _) (by simp [World.cell?, HBK.out])
  have e1 := fun o => bel_cell (a := ⟨w6.heap.size, 1, none⟩) (v := .string v0) (bel_alloc w7 o) (Nat.le_refl _) (by simp [World.cell?, HBK.out])
  have e2 := fun o => bel_cell (a := ⟨w6.heap.size, 2, none⟩) (v := .bool d0) (bel_alloc w7 o) (Nat.le_refl _) (by simp [World.cell?, HBK.out])
  have e3 := fun o => bel_cell (a := ⟨w6.heap.size, 3, none⟩) (v := .int .i64 q0) (bel_alloc w7 o) (Nat.le_refl _) (by simp [World.cell?, HBK.out])
  have hs3 := fun o => str_bytes c (bytes_kept (bytes_kept HBT.out (HBW2.out.trans (HB7.out.mono HBW2.out.size)) (Nat.le_refl _)) (bel_alloc w7 o) (Nat.le_refl _))
  have hs4 := fun o => str_bytes c2 (bytes_kept (bytes_kept HBY2.out HB7.out (Nat.le_refl _)) (bel_alloc w7 o) (Nat.le_refl _))
  have hg := guard23
  have hEQ := fun W => equal23 k0 v0 d0 q0 k0 v0 d0 q0 W
  simp only [decide_true] at hEQ
  clear hb7 hblk HE6 hs2 he7 HCK
  go_wp2
  go_ret
  exact ⟨rfl, HBW2.out.trans ((HB7.out.trans ((bel_alloc w7 _).mono HB7.out.size)).mono HBW2.out.size)⟩
end Go.Proofs.Yteemfhhhdhddhaa
