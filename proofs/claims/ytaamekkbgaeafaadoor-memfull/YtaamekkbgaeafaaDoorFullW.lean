/-
  MemFull: the mathematics and the walk.
-/
import Derived.Test.YtaamekkbgaeafaaDoorMmR
import Derived.Lib.MinMax
import Derived.Laws.Bits128
namespace Go.Proofs.YtaamekkbgaeafaaDoor
open Go.RowKit
set_option linter.unusedSectionVars false
set_option linter.unusedVariables false
variable [Inhabited E] [DecidableEq E]
def kk (i : Nat) : ByteArray := ⟨#[107, UInt8.ofNat i]⟩
theorem kk_lt {i j : Nat} (hi : i < 256) (hj : j < 256) : cmpS (kk i) (kk j) < 0 ↔ i < j := by
  rw [show cmpS (kk i) (kk j) < 0 ↔ (decide (cmpS (kk i) (kk j) < 0) = true) by simp, ← less_cmpS, Lib.toList_data, Lib.toList_data]
  simp only [kk, Op.bytesLess]
  have h1 : (UInt8.ofNat i).toNat = i := by simp; omega
  have h2 : (UInt8.ofNat j).toNat = j := by simp; omega
  simp [UInt8.lt_iff_toNat_lt, Nat.mod_eq_of_lt hi, Nat.mod_eq_of_lt hj]
theorem kk_inj {i j : Nat} (hi : i < 256) (hj : j < 256) (h : kk i = kk j) : i = j := by
  rcases Nat.lt_trichotomy i j with h1 | h1 | h1
  · have h2 := (kk_lt hi hj).2 h1; rw [h, cmpS_eq.2 rfl] at h2; omega
  · exact h1
  · have h2 := (kk_lt hj hi).2 h1; rw [h, cmpS_eq.2 rfl] at h2; omega
def ef (i : Nat) (s : Int) : E := ⟨kk i, ⟨#[]⟩, false, s⟩
theorem ef_right (i : Nat) {s : Int} (h1 : 1 ≤ s) (h2 : s ≤ 1099511627776) : rightB (ef i s) = true := by
  unfold rightB
  simp only [decide_eq_true_eq]
  exact ⟨show 1 ≤ 2 by omega, show 2 ≤ 128 by omega, show 0 ≤ 1024 by omega, (fun h => by cases h), h1, h2⟩
/-- A mem with the keys of the first m. -/
def FK (A : Mm) (m : Nat) (s : Int) : Prop := A.es.map (·.key) = (List.range m).map kk ∧ m ≤ 64 ∧ A.last ≤ s ∧ 0 ≤ s
theorem fk_len {A : Mm} {m : Nat} {s : Int} (h : FK A m s) : A.es.length = m := by
  have := congrArg List.length h.1
  simpa using this
theorem fk_in {A : Mm} {m : Nat} {s : Int} (h : FK A m s) {i : Nat} (hi : i < 128) : isIn (kk i) A.es = decide (i < m) := by
  have h1 : isIn (kk i) A.es = (A.es.map (·.key)).any (fun x => decide (x = kk i)) := by
    rw [isIn, List.any_map]; rfl
  rw [h1, h.1, List.any_map]
  by_cases hm : i < m
  · rw [decide_eq_true hm, List.any_eq_true]
    exact ⟨i, by simpa using hm, by simp⟩
  · rw [decide_eq_false hm, List.any_eq_false]
    intro j hj
    simp only [Function.comp, decide_eq_true_eq]
    intro e
    have hj2 : j < m := by simpa using hj
    have := h.2.1
    have := kk_inj (by omega) (by omega) e
    omega
theorem fk_key {A : Mm} {m : Nat} {s : Int} (h : FK A m s) {j : Nat} (hj : j < m) : A.es[j]!.key = kk j := by
  have hl := fk_len h
  have h1 : (A.es.map (·.key))[j]? = some (kk j) := by rw [h.1]; simp [hj]
  rw [getElem!_pos A.es j (by omega)]
  simpa [List.getElem?_map, List.getElem?_eq_getElem (show j < A.es.length by omega)] using h1
theorem fk_put {A : Mm} (hw : A.wf) {m : Nat} {s : Int} (h : FK A m s) {i : Nat} (hi : i ≤ m ∨ m = 64) (hi2 : i < 128) (hs : s + 1 ≤ 1099511627776) :
    putN A (ef i (s + 1)) = (if i < 64 then 0 else 3) ∧ FK (putA A (ef i (s + 1))) (if i < 64 then max m (i + 1) else m) (s + 1) := by
  have hl := fk_len h
  have hr := ef_right i (s := s + 1) (by have := h.2.2.2; omega) hs
  have hlast : A.last < (ef i (s + 1)).seq := by have := h.2.2.1; show A.last < s + 1; omega
  have hin : isIn (ef i (s + 1)).key A.es = decide (i < m) := fk_in h hi2
  have hneg : ¬ (rightB (ef i (s + 1)) = false ∨ (ef i (s + 1)).seq ≤ A.last) := by rw [hr]; simp; omega
  by_cases h64 : i < 64
  · rw [if_pos h64, if_pos h64]
    have hp : putN A (ef i (s + 1)) = 0 := by
      unfold putN
      rw [if_neg hneg, if_neg]
      rw [hin]
      rintro ⟨e1, e2⟩
      simp at e1
      omega
    refine ⟨hp, ?_⟩
    rw [putA_ok hp]
    have hf := ins_form hw hlast
    rw [hin] at hf
    refine ⟨?_, by have := h.2.1; omega, Int.le_refl _, by have := h.2.2.2; omega⟩
    show (insS A.es (ef i (s + 1))).map (·.key) = _
    rw [hf]
    by_cases him : i < m
    · rw [decide_eq_true him, if_pos rfl, Nat.max_eq_left (by omega), List.map_set]
      have hb : belowN (ef i (s + 1)).key A.es = i := by
        have hks := hw.ks
        have p1 := ks_place (kk i) hks i (by omega)
        rw [fk_key h him] at p1
        have p2 : ¬ i < belowN (kk i) A.es := fun e => by have := p1.2 e; rw [cmpS_eq.2 rfl] at this; omega
        have p3 : ∀ j, j < i → j < belowN (kk i) A.es := fun j hj => by
          have := ks_place (kk i) hks j (by omega)
          rw [fk_key h (by omega)] at this
          exact this.1 ((kk_lt (by omega) (by omega)).2 hj)
        show belowN (kk i) A.es = i
        rcases Nat.lt_trichotomy (belowN (kk i) A.es) i with q | q | q
        · have := p3 _ q; omega
        · exact q
        · exact absurd q p2
      rw [hb, h.1]
      apply List.ext_getElem
      · simp
      · intro j h1 h2
        rw [List.getElem_set]
        split
        · rename_i e; subst e; simp [ef]
        · rfl
    · have hm : m = i := by omega
      rw [decide_eq_false him, if_neg (by simp), Nat.max_eq_right (by omega)]
      have hb : belowN (ef i (s + 1)).key A.es = A.es.length := by
        have hle := belowN_le (kk i) A.es
        show belowN (kk i) A.es = A.es.length
        rcases Nat.lt_or_ge (belowN (kk i) A.es) A.es.length with q | q
        · have := (ks_place (kk i) hw.ks _ q).1 (by rw [fk_key h (by omega)]; exact (kk_lt (by omega) (by omega)).2 (by omega))
          omega
        · omega
      rw [hb, insL, List.take_length, List.drop_length, List.map_append, h.1, hm, List.range_succ, List.map_append]
      rfl
  · rw [if_neg h64, if_neg h64]
    have hm : m = 64 := by have := h.2.1; omega
    have hp : putN A (ef i (s + 1)) = 3 := by
      unfold putN
      rw [if_neg hneg, if_pos]
      rw [hin]
      exact ⟨decide_eq_false (by omega), by omega⟩
    refine ⟨hp, ?_⟩
    rw [putA, if_neg (by rw [hp]; decide)]
    exact ⟨h.1, h.2.1, by have := h.2.2.1; omega, by have := h.2.2.2; omega⟩
set_option maxRecDepth 100000 in
set_option maxHeartbeats 2000000 in
theorem full_walk (n0 : Int) (w : World) (hK : KK w) :
    Calls Tryd.prog 6 #[.int .i64 n0] w fun e w' => e = .returned (.bool true) ∧ Below w.heap.size w w' := by
  have hk2 := hK.2
  obtain ⟨B, HB⟩ : ∃ B, Hid (w.heap.size = B) := ⟨_, rfl⟩
  rw [HB.out] at hk2
  rw [HB.out]
  obtain ⟨r0, hbit, HR0⟩ : ∃ r : Nat, bits .and .i64 n0 127 = (r : Int) ∧ Hid (r ≤ 127) := ⟨(n0 % 128).toNat, by rw [i64_and127]; omega, by show _ ≤ _; omega⟩
  obtain ⟨n, HN⟩ : ∃ n : Nat, Hid (r0 % 101 = n) := ⟨_, rfl⟩
  have hrem : (r0 : Int).tmod 101 = (n : Int) := by rw [Int.tmod_eq_emod_of_nonneg (by omega)]; have := HN.out; omega
  have HN1 : Hid (n ≤ 100) := by show _ ≤ _; have := HN.out; omega
  clear HN HR0
  go_enter Tryd.func6, Tryd.ntmps6
  go_wp2_with (go_at_call 9; refine (shown_any w hK).mono ?_; rintro e w1 ⟨rfl, hb1, hk1⟩)
  rw [HB.out] at hb1
  have hs1 : B ≤ w1.heap.size := by have := hb1.size; rw [HB.out] at this; exact this
  refine (new_fr B w1 hk1 hs1 hk2).mono ?_
  rintro e w2 ⟨g, rfl, hM2, hb2, hk2x⟩
  have hb2x := hb1.trans hb2
  clear hk1 hb1 hb2 hs1 hK
  go_wp2_with fail
  clear hrem hbit
  go_loopw [5, 6, 7, 8] (fun x5 x6 _ _ wr => ∃ (r s : Nat) (A : Mm), x5 = .int .i64 (s : Nat) ∧ x6 = .int .i64 (r : Nat) ∧ Hid (r ≤ 2 ∧ s ≤ 100 * r) ∧ Hid (MemAt (Fr B) wr g A ∧ KK wr ∧ Below B w wr ∧ FK A (if r = 0 then 0 else min n 64) s)) (fun _ x _ _ _ => 2 - (intOf x).toNat)
  case atStart => exact ⟨0, 0, mm0, rfl, rfl, ⟨by omega, by omega⟩, hM2, hk2x, hb2x, ⟨rfl, by simp, by decide, by decide⟩⟩
  case round =>
    obtain ⟨r, s, A, rfl, rfl, HRS, HI⟩ := hrel
    obtain ⟨wo, hwo⟩ : ∃ W, W = wr := ⟨_, rfl⟩
    subst hwo
    by_cases hr : r < 2
    · have hz1 : (r : Int) < 2 := by omega
      go_wp2_with fail
      go_loopw [5, 7, 8] (fun x5 x7 _ wr => ∃ (i t : Nat) (A : Mm), x5 = .int .i64 (t : Nat) ∧ x7 = .int .i64 (i : Nat) ∧ Hid (i ≤ n ∧ t = s + i) ∧ Hid (MemAt (Fr B) wr g A ∧ KK wr ∧ Below B w wr ∧ FK A (if r = 0 then min i 64 else min n 64) t)) (fun _ x _ _ => n - (intOf x).toNat)
      case atStart =>
        refine ⟨0, s, A, rfl, rfl, ⟨by omega, by omega⟩, HI.out.1, HI.out.2.1, HI.out.2.2.1, ?_⟩
        simpa using HI.out.2.2.2
      case round =>
        obtain ⟨i, t, A, rfl, rfl, HIT, HJ⟩ := hrel
        by_cases hin : i < n
        · have hz2 : (i : Int) < (n : Int) := by omega
          have hcv : (convert 52 9 (.slice (some ⟨wr.heap.size, 0, none⟩) 1 1)).run Tryd.prog (wr.alloc (.cells #[.int .u8 ((i : Int) % 256)] 5)) = .ok (.string ⟨#[UInt8.ofNat i]⟩) (wr.alloc (.cells #[.int .u8 ((i : Int) % 256)] 5)) := by
            have hby : Bytes (wr.alloc (.cells #[.int .u8 ((i : Int) % 256)] 5)) (some ⟨wr.heap.size, 0, none⟩) 1 [UInt8.ofNat i] := by
              refine ⟨rfl, fun j c hj => ⟨_, rfl, ?_⟩⟩
              rw [Addr.add_lit, Nat.zero_add, cell_of_row _ _ _ _ _ _ (heap_alloc_new wr _)]
              cases j with
              | zero => simp at hj; subst hj; simp
              | succ j => simp at hj
            exact str_bytes _ hby
          have hw1 : wrap64 ((t : Int) + 1) = ((t + 1 : Nat) : Int) := by have := HIT.out; have := HRS.out; have := HN1.out; unfold wrap64; omega
          have hkk : (⟨#[107]⟩ : ByteArray) ++ ⟨#[UInt8.ofNat i]⟩ = kk i := by apply ByteArray.ext; simp [kk]
          have hbA : Below wr.heap.size wr (wr.alloc (.cells #[.int .u8 ((i : Int) % 256)] 5)) := bel_alloc wr _
          have hB0 : B ≤ wr.heap.size := Nat.le_trans (Nat.le_of_eq HB.out.symm) HJ.out.2.2.1.size
          have HFP : Hid _ := fk_put HJ.out.1.1 HJ.out.2.2.2 (i := i) (by have := HN1.out; have := HIT.out; split <;> omega) (by have := HN1.out; omega) (by have := HIT.out; have := HRS.out; have := HN1.out; omega)
          have hpf := put_fr B g A (ef i ((t : Int) + 1)) _ (HJ.out.1.grown hbA) (HJ.out.2.1.below hbA HJ.out.2.1.2) (Nat.le_trans hB0 hbA.size) hk2 (show 2 ≤ 9223372036854775807 by omega) (show 0 ≤ 9223372036854775807 by omega)
          rw [HFP.out.1] at hpf
          have HPF : Hid _ := hpf
          clear hpf
          go_wp2_with fail
          refine Calls.mono HPF.out ?_
          rintro e w5 ⟨rfl, hM5, hb5, hk5⟩
          have HN : Hid (MemAt (Fr B) w5 g (putA A (ef i ((t : Int) + 1))) ∧ KK w5 ∧ Below B w w5 ∧ FK (putA A (ef i ((t : Int) + 1))) (if r = 0 then min (i + 1) 64 else min n 64) ((t + 1 : Nat) : Int)) := by
            refine ⟨hM5, hk5, HJ.out.2.2.1.trans ((hbA.mono hB0).trans hb5), ?_⟩
            have := HFP.out.2
            have e1 : (if i < 64 then max (if r = 0 then min i 64 else min n 64) (i + 1) else (if r = 0 then min i 64 else min n 64)) = (if r = 0 then min (i + 1) 64 else min n 64) := by
              split <;> split <;> omega
            rw [e1] at this
            simpa using this
          clear hM5 hb5 hk5 hbA HFP HPF HJ hkk hcv
          by_cases h64 : i < 64
          · have hz3 : (i : Int) < 64 := by omega
            have d3 : decide ((i : Int) < 64) = true := decide_eq_true hz3
            rw [if_pos h64]
            clear h64
            go_wp2
            go_roundw
            case rel => exact ⟨i + 1, t + 1, _, by go_num, by go_num, ⟨by omega, by have := HIT.out; omega⟩, HN⟩
            case measure => (try simp [intOf]); omega
          · have hz3 : ¬ ((i : Int) < 64) := by omega
            have d3 : decide ((i : Int) < 64) = false := decide_eq_false hz3
            rw [if_neg h64]
            clear h64
            have hwi : (i : Int) < 101 := by have := HN1.out; omega
            go_wp2
            go_roundw
            case rel => clear hw1; exact ⟨i + 1, t + 1, _, by go_num, by go_num, ⟨by omega, by have := HIT.out; omega⟩, HN⟩
            case measure => clear hw1; (try simp [intOf]); omega
        · have hz2 : ¬ ((i : Int) < (n : Int)) := by omega
          have hieq : i = n := by have := HIT.out; omega
          have HL : Hid (Calls Tryd.prog 24 #[.pointer (some ⟨g, 0, none⟩)] wr fun e w' => e = .returned (.int .i64 ((min n 64 : Nat) : Int)) ∧ w' = wr) := by
            have := len_any (Fr B) g A wr HJ.out.1
            rw [fk_len HJ.out.2.2.2] at this
            rw [show (if r = 0 then min i 64 else min n 64) = min n 64 by rw [hieq]; split <;> rfl] at this
            exact this
          have hmin : min (n : Int) 64 = ((min n 64 : Nat) : Int) := by omega
          have HNX : Hid (MemAt (Fr B) wr g A ∧ KK wr ∧ Below B w wr ∧ FK A (if r + 1 = 0 then 0 else min n 64) t) := by
            refine ⟨HJ.out.1, HJ.out.2.1, HJ.out.2.2.1, ?_⟩
            have := HJ.out.2.2.2
            rw [show (if r = 0 then min i 64 else min n 64) = min n 64 by rw [hieq]; split <;> rfl] at this
            rw [if_neg (by omega)]
            exact this
          have HTT : Hid (t ≤ 100 * (r + 1)) := by show _ ≤ _; have := HIT.out; have := HRS.out; have := HN1.out; omega
          clear HJ hin hieq
          go_wp2_with (go_at_call 24; refine Calls.mono HL.out ?_; rintro e wx ⟨rfl, rfl⟩)
          go_roundw
          case rel => exact ⟨r + 1, t, A, rfl, by go_num, ⟨by have := HRS.out; omega, HTT.out⟩, HNX⟩
          case measure => (try simp [intOf]); omega
    · have hz1 : ¬ ((r : Int) < 2) := by omega
      have hreq : r = 2 := by have := HRS.out; omega
      have hsm : s ≤ 200 := by have := HRS.out; omega
      have hw2 : wrap64 ((s : Int) + 1) = (s : Int) + 1 := by unfold wrap64; omega
      have hB0 : B ≤ wo.heap.size := Nat.le_trans (Nat.le_of_eq HB.out.symm) HI.out.2.2.1.size
      clear hr
      go_wp2_with fail
      refine (clear_fr B g A wo HI.out.1 HI.out.2.1 hB0 hk2).mono ?_
      rintro e w4 ⟨rfl, hM4, hb4, hk4⟩
      have hbw4 := HI.out.2.2.1.trans hb4
      have hs4 := Nat.le_trans hB0 hb4.size
      have hp4 : putN ⟨[], A.last, noneB⟩ ⟨⟨#[111, 116, 104, 101, 114]⟩, ⟨#[]⟩, false, (s : Int) + 1⟩ = 0 := by
        refine putN_ok ?_ (by have := HI.out.2.2.2.2.2.1; show A.last < (s : Int) + 1; omega) (by show 0 < 64; omega)
        unfold rightB
        simp only [decide_eq_true_eq]
        exact ⟨show 1 ≤ 5 by omega, show 5 ≤ 128 by omega, show 0 ≤ 1024 by omega, (fun h => by cases h), (by show (1 : Int) ≤ (s : Int) + 1; omega), (by show (s : Int) + 1 ≤ 1099511627776; omega)⟩
      have hpf := put_fr B g ⟨[], A.last, noneB⟩ ⟨⟨#[111, 116, 104, 101, 114]⟩, ⟨#[]⟩, false, (s : Int) + 1⟩ w4 hM4 hk4 hs4 hk2 (show 5 ≤ 9223372036854775807 by omega) (show 0 ≤ 9223372036854775807 by omega)
      rw [putA_ok hp4, hp4] at hpf
      have HPF : Hid _ := hpf
      clear hpf hM4 hb4 hk4 HI
      go_wp2_with fail
      refine Calls.mono HPF.out ?_
      rintro e w5 ⟨rfl, hM5, hb5, hk5⟩
      have HL : Hid (Calls Tryd.prog 24 #[.pointer (some ⟨g, 0, none⟩)] w5 fun e w' => e = .returned (.int .i64 1) ∧ w' = w5) := len_any (Fr B) g _ w5 hM5
      have hbw5 := hbw4.trans hb5
      clear hM5 hb5 hk5 HPF
      go_wp2_with (go_at_call 24; refine Calls.mono HL.out ?_; rintro e wx ⟨rfl, rfl⟩)
      go_ret
      exact ⟨rfl, hbw5⟩
end Go.Proofs.YtaamekkbgaeafaaDoor
