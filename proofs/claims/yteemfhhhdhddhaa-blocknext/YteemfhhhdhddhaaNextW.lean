/-
  The statement BlockNext, walked.
-/
import Derived.Test.YteemfhhhdhddhaaParB
import Derived.Test.YteemfhhhdhddhaaSmallB
import Derived.Test.YteemfhhhdhddhaaSame
namespace Go.Proofs.Yteemfhhhdhddhaa
open Go.RowKit Go.Sort Go.Shelf
set_option linter.unusedSectionVars false
variable [Inhabited E] [DecidableEq E]
def nul : ByteArray := ⟨#[0]⟩
/-- The key that is sought at the i-th time. -/
def keyN (l : List E) : Nat → ByteArray
  | 0 => ⟨#[]⟩
  | i + 1 => l[i]!.key ++ nul
theorem cb_nul : ∀ a b : List UInt8, Lib.compareBytes a (b ++ [0]) < 0 ↔ Lib.compareBytes a b ≤ 0
  | [], [] => by decide
  | [], _ :: _ => by simp [Lib.compareBytes]
  | x :: xs, [] => by
    have h0 : ¬ x < 0 := by simp
    simp only [List.nil_append, Lib.compareBytes, h0, if_false]
    split
    · simp
    · cases xs <;> simp [Lib.compareBytes]
  | x :: xs, y :: ys => by
    simp only [List.cons_append, Lib.compareBytes]
    split
    · simp
    · split
      · simp
      · exact cb_nul xs ys
theorem cmpS_nul (a b : ByteArray) : cmpS a (b ++ nul) < 0 ↔ cmpS a b ≤ 0 := by
  unfold cmpS
  rw [← cb_nul]
  simp [nul]
theorem cmpS_none (a : ByteArray) : ¬ cmpS a ⟨#[]⟩ < 0 := by
  unfold cmpS
  cases a.data.toList <;> simp [Lib.compareBytes]
theorem below_of {l : List E} (hk : Ks l) (key : ByteArray) (p : Nat) (hp : p ≤ l.length) (h : ∀ i, i < l.length → (cmpS l[i]!.key key < 0 ↔ i < p)) : belowN key l = p := by
  have h1 := belowN_le key l
  have h2 := fun i hi => (ks_place key hk i hi)
  rcases Nat.lt_trichotomy (belowN key l) p with hlt | heq | hgt
  · have := (h2 (belowN key l) (by omega)).1 ((h _ (by omega)).2 hlt)
    omega
  · exact heq
  · have := (h p (by omega)).1 ((h2 p (by omega)).2 hgt)
    omega
theorem ks_less {l : List E} (hk : Ks l) (i j : Nat) (hj : j < l.length) (h : i < j) : cmpS l[i]!.key l[j]!.key < 0 := by
  have := List.pairwise_iff_getElem.1 hk i j (by omega) hj h
  rw [getElem!_pos l i (by omega), getElem!_pos l j hj]
  exact this
theorem cmp_at {l : List E} (hk : Ks l) (i j : Nat) (hi : i < l.length) (hj : j < l.length) : (cmpS l[i]!.key l[j]!.key < 0 ↔ i < j) ∧ (cmpS l[i]!.key l[j]!.key ≤ 0 ↔ i ≤ j) := by
  rcases Nat.lt_trichotomy i j with h | h | h
  · have h1 := ks_less hk i j hj h
    exact ⟨⟨fun _ => h, fun _ => h1⟩, ⟨fun _ => by omega, fun _ => by omega⟩⟩
  · subst h
    have h1 : cmpS l[i]!.key l[i]!.key = 0 := cmpS_eq.2 rfl
    rw [h1]
    exact ⟨⟨fun h => by omega, fun h => by omega⟩, ⟨fun _ => Nat.le_refl _, fun _ => by omega⟩⟩
  · have h1 := ks_less hk j i hi h
    have h2 := (cmpS_ord.1 l[j]!.key l[i]!.key).1 h1
    exact ⟨⟨fun h => by omega, fun h => by omega⟩, ⟨fun h => by omega, fun h => by omega⟩⟩
theorem below_at {l : List E} (hk : Ks l) (j : Nat) (hj : j < l.length) : belowN l[j]!.key l = j :=
  below_of hk _ j (Nat.le_of_lt hj) (fun i hi => (cmp_at hk i j hi hj).1)
theorem below_next {l : List E} (hk : Ks l) (j : Nat) (hj : j < l.length) : belowN (l[j]!.key ++ nul) l = j + 1 :=
  below_of hk _ (j + 1) hj (fun i hi => by rw [cmpS_nul, (cmp_at hk i j hi hj).2]; omega)
theorem below_keyN {l : List E} (hk : Ks l) : ∀ i, i ≤ l.length → belowN (keyN l i) l = i
  | 0, _ => below_of hk _ 0 (Nat.zero_le _) (fun i _ => ⟨fun h => absurd h (cmpS_none _), fun h => by omega⟩)
  | i + 1, h => below_next hk i h
theorem fit_ks {l : List E} (h : fitB l = true) : Ks l := by
  unfold fitB at h; simp only [Bool.and_eq_true] at h; exact sortedB_ks.1 h.2
theorem seek_of {l : List E} (hf : fitB l = true) {key : ByteArray} {e : Ending} (h : SeekSays (blockB l) key e) : e = .returned (seekV l key) := by
  rcases h with ⟨_, hno⟩ | ⟨l0, he, hIB⟩
  · exact absurd rfl (hno l hf)
  · rw [he, hIB.2.2 l hf rfl]
theorem seekV_in {l : List E} {key : ByteArray} {p : Nat} (hb : belowN key l = p) (hp : p < l.length) : seekV l key = .tuple #[.agg (encE l[p]!).toArray, .bool true, .int .i64 0] := by
  unfold seekV; rw [hb, if_pos hp]
theorem seekV_out {l : List E} {key : ByteArray} (hb : belowN key l = l.length) : seekV l key = .tuple #[zeroE, .bool false, .int .i64 0] := by
  unfold seekV; rw [hb, if_neg (Nat.lt_irrefl _)]
theorem blockB_len {l : List E} (h : fitB l = true) : (blockB l).length ≤ 100000 ∧ 8 ≤ (blockB l).length := by
  have h1 := bodyB_len l (fun e he => by have := fit_all h; rw [List.all_eq_true] at this; exact this e he) l.length (Nat.le_refl _)
  have h2 := placesB_len l l.length
  have h3 := fit_len h
  rw [blockB, List.length_append, List.length_append, h2, fixB_len]
  omega
set_option maxRecDepth 100000 in
set_option maxHeartbeats 4000000 in
theorem next_walk (ao : Option Addr) (n c : Nat) (es : List E) (w : World) (hE : EntsV w ao n es) (hsm : Small es) (hnc : n ≤ c) (hc : c ≤ 9223372036854775807) :
    Calls Try.prog 17 #[.slice ao n c] w fun e w' => e = .returned (.bool true) ∧ Below w.heap.size w w' := by
  go_enter Try.func17, Try.ntmps17
  go_wp2_with fail
  refine (shown4_any w).mono ?_
  rintro e w1 ⟨rfl, hb1⟩
  go_wp2_with fail
  refine (fit4_any ao n c es w1 (hE.below hb1 (Nat.le_refl _)) hsm (by omega)).mono ?_
  rintro e w2 ⟨v2, rfl, hown2, hb2⟩
  have hl2 := fitS_len es
  have hr2 := fitS_right es
  have hf2 := fitS_fit es
  obtain ⟨fs, HF⟩ : ∃ fs, Hid (fitS es = fs) := ⟨_, rfl⟩
  rw [HF.out] at hown2 hl2 hr2 hf2
  obtain ⟨ao2, c2, rfl, hE2⟩ := own_entsV hown2 rfl
  have hB2 : Below w.heap.size w w2 := hb1.trans (hb2.mono hb1.size)
  clear hown2 hb1 hb2 hE hsm
  obtain ⟨l, HL⟩ : ∃ l, Hid (fs.length = l) := ⟨_, rfl⟩
  rw [HL.out] at hE2 hl2 hf2 ⊢
  have HE2 : Hid (EntsV w2 ao2 l fs) := hE2
  have HB2 : Hid _ := hB2
  have HR2 : Hid (fs.all rightB = true) := hr2
  clear hE2 hB2 hr2
  by_cases h0 : l = 0
  · have h0z : ((l : Int) == 0) = true := by simp; omega
    clear h0 hf2
    go_wp2
    go_ret
    exact ⟨rfl, HB2.out⟩
  · have h0z : ((l : Int) == 0) = false := by simp; omega
    have HFIT : Hid (fitB fs = true) := hf2 (by omega)
    have HC : Hid _ := blockBytes_some ao2 l c2 fs w2 HE2.out (right_small HR2.out) HFIT.out
    have HKS : Hid (Ks fs) := fit_ks HFIT.out
    clear hf2 h0
    go_wp2_with fail
    refine Calls.mono HC.out ?_
    rintro e w3 ⟨v3, rfl, hown3, hb3⟩
    have hbl := (blockB_len HFIT.out).1
    obtain ⟨m, HM⟩ : ∃ m, Hid ((blockB fs).length = m) := ⟨_, rfl⟩
    rw [HM.out] at hown3 hbl
    obtain ⟨ao3, c3, rfl, hby3, -, hlc3, hcm3, -, -⟩ := own_bytes hown3
    unfold maxLen at hcm3
    have HBY : Hid _ := hby3
    have HB3 : Hid (Below w.heap.size w w3) := HB2.out.trans (hb3.mono HB2.out.size)
    have HE3 : Hid (EntsV w3 ao2 l fs) := HE2.out.below hb3 (Nat.le_refl _)
    have HSK : Hid (∀ W key, Below w3.heap.size w3 W → Calls Try.prog 42 #[.slice ao3 m c3, .string key] W fun e w' => Below W.heap.size W w' ∧ e = .returned (seekV fs key)) := by
      intro W key hW
      refine (seek_any ao3 m c3 (blockB fs) key W (bytes_kept HBY.out hW (Nat.le_refl _)) hlc3 (by omega) (by omega)).mono ?_
      rintro e w' ⟨h1, h2⟩
      exact ⟨h1, seek_of HFIT.out h2⟩
    clear hown3 hby3 hb3 HC HBY HE2 hlc3 hcm3
    go_wp2_with fail
    go_loopw [6, 7, 8, 9, 10] (fun s6 s7 _ _ _ wr => ∃ i : Nat, s7 = .int .i64 i ∧ i ≤ l ∧ s6 = .string (keyN fs i) ∧ Hid (Below w3.heap.size w3 wr)) (fun _ x _ _ _ _ => l - (intOf x).toNat)
    case atStart => exact ⟨0, rfl, Nat.zero_le _, rfl, Below.refl _ _⟩
    case round =>
      obtain ⟨i, rfl, hi, rfl, HBR⟩ := hrel
      by_cases hlt : i < l
      · have hltz := lt_z hlt
        have HBN : Hid (belowN (keyN fs i) fs = i) := below_keyN HKS.out i (by rw [HL.out]; exact hi)
        have HS := HSK.out wr (keyN fs i) HBR.out
        rw [seekV_in HBN.out (by rw [HL.out]; exact hlt)] at HS
        obtain ⟨k0, v0, d0, q0, HX⟩ : ∃ k0 v0 d0 q0, Hid (fs[i]! = E.mk k0 v0 d0 q0) := ⟨_, _, _, _, rfl⟩
        rw [HX.out] at HS
        have HSH : Hid (Calls Try.prog 42 #[.slice ao3 m c3, .string (keyN fs i)] wr fun e w' => Below wr.heap.size wr w' ∧ e = .returned (.tuple #[.agg #[.string k0, .string v0, .bool d0, .int .i64 q0], .bool true, .int .i64 0])) := HS
        clear HS
        obtain ⟨kk, HKK⟩ : ∃ k, Hid (keyN fs i = k) := ⟨_, rfl⟩
        rw [HKK.out] at HSH ⊢
        go_wp2_with fail
        refine Calls.mono HSH.out ?_
        rintro e w4 ⟨hb4, rfl⟩
        have HB4 : Hid (Below w3.heap.size w3 w4) := HBR.out.trans (hb4.mono HBR.out.size)
        clear hb4 HSH
        obtain ⟨b, off, hao, hEn⟩ := HE3.out.2 (Nat.lt_of_le_of_lt (Nat.zero_le _) hlt)
        subst hao
        have hEa := fun o => (hEn.below HB4.out (Nat.le_refl _)).below (bel_alloc w4 o) (Nat.le_refl _)
        have c0 := fun o => (ents_four (hEa o) i (by rw [HL.out]; exact hlt) HX.out).1
        have c1 := fun o => (ents_four (hEa o) i (by rw [HL.out]; exact hlt) HX.out).2.1
        have c2 := fun o => (ents_four (hEa o) i (by rw [HL.out]; exact hlt) HX.out).2.2.1
        have c3' := fun o => (ents_four (hEa o) i (by rw [HL.out]; exact hlt) HX.out).2.2.2
        have hg := guard23
        have hEQ := fun W => equal23 k0 v0 d0 q0 k0 v0 d0 q0 W
        simp only [decide_true] at hEQ
        clear hEn hEa
        have hks : ¬ (9223372036854775807 < k0.size + 1) := by
          have := (right_parts (show rightB ⟨k0, v0, d0, q0⟩ = true by rw [← HX.out]; exact take_right HR2.out i (by rw [HL.out]; exact hlt))).1
          simp only at this
          omega
        have HKN : Hid (keyN fs (i + 1) = k0 ++ nul) := by show _ = _; rw [keyN, HX.out]
        go_wp2_with fail
        go_quiet (fail)
        go_wp2
        go_roundw
        case rel => exact ⟨i + 1, by go_num, hlt, by rw [HKN.out]; rfl, bel_drewN (HB4.out.trans ((bel_alloc w4 _).mono HB4.out.size)) _⟩
        case measure => simp [intOf]; omega
      · have hltz := nlt_z hlt
        have hil : i = l := Nat.le_antisymm hi (Nat.le_of_not_lt hlt)
        have HBN : Hid (belowN (keyN fs i) fs = fs.length) := by show _ = _; rw [HL.out, ← hil]; exact below_keyN HKS.out i (by rw [HL.out]; exact hi)
        have HS := HSK.out wr (keyN fs i) HBR.out
        rw [seekV_out HBN.out] at HS
        have HSH : Hid (Calls Try.prog 42 #[.slice ao3 m c3, .string (keyN fs i)] wr fun e w' => Below wr.heap.size wr w' ∧ e = .returned (.tuple #[.agg #[.string ByteArray.empty, .string ByteArray.empty, .bool false, .int .i64 0], .bool false, .int .i64 0])) := HS
        clear HS hil
        obtain ⟨kk, HKK⟩ : ∃ k, Hid (keyN fs i = k) := ⟨_, rfl⟩
        rw [HKK.out] at HSH ⊢
        go_wp2_with fail
        refine Calls.mono HSH.out ?_
        rintro e w4 ⟨hb4, rfl⟩
        have HB4 : Hid (Below w.heap.size w w4) := HB3.out.trans ((HBR.out.trans (hb4.mono HBR.out.size)).mono HB3.out.size)
        clear hb4 HSH
        go_wp2
        go_ret
        exact ⟨rfl, HB4.out.trans ((bel_alloc w4 _).mono HB4.out.size)⟩
end Go.Proofs.Yteemfhhhdhddhaa
