/-
  What slices.Min and slices.Max of strings answer: contracts over this translation.
-/
import Derived.Test.YtnkbhojflcckmaaPkL
namespace Go.Proofs.Ytnkbhojflcckmaa
open Go.RowKit
set_option linter.unusedSectionVars false
/-- A row of strings lies in a slice. -/
def StrsV (w : World) (ao : Option Addr) (n : Nat) (l : List ByteArray) : Prop := l.length = n ∧ (0 < n → ∃ b off, ao = some ⟨b, off, none⟩ ∧ ∀ i, i < n → w.cell? ⟨b, off + i, none⟩ = some (.string (l.getD i ByteArray.empty)))
theorem StrsV.keep {w w' : World} {ao : Option Addr} {n : Nat} {l : List ByteArray} (h : StrsV w ao n l) (hb : Below w.heap.size w w') : StrsV w' ao n l :=
  ⟨h.1, fun hp => by
    obtain ⟨b, off, h1, h2⟩ := h.2 hp
    exact ⟨b, off, h1, fun i hi => by
      have h3 := h2 i hi
      rw [← h3]
      exact World.cell?_of_block (hb.block b (World.block_lt_of_cell? w _ h3))⟩⟩
theorem own_strsV {w : World} {base : Nat} {v : Value} {n : Nat} {l : List ByteArray} (h : w.ownsRow base 9 1 v n (l.map Value.string)) : ∃ ao c, v = .slice ao n c ∧ StrsV w ao n l ∧ n = l.length := by
  have hl : n = l.length := by have := h.1; rw [List.length_map] at this; omega
  rcases h.2 with ⟨rfl, h0⟩ | ⟨g, cap, cur, rfl, hb, hg, hn, hm, hs, ht⟩
  · exact ⟨none, 0, by rw [h0], ⟨hl.symm, fun hp => absurd hp (by omega)⟩, hl⟩
  · refine ⟨_, cap, rfl, ⟨hl.symm, fun _ => ⟨g, 0, rfl, fun i hi => ?_⟩⟩, hl⟩
    have hi2 : i < l.length := by omega
    have := h.cells (g := g) rfl i (.string (l.getD i ByteArray.empty)) (by simp [hi2])
    rwa [Addr.add_lit] at this
theorem minS_le (a b : ByteArray) : cmpS (minS a b) a ≤ 0 ∧ cmpS (minS a b) b ≤ 0 ∧ (minS a b = a ∨ minS a b = b) := by
  unfold minS
  have h1 := cmpS_ord.self a
  have h2 := cmpS_ord.self b
  have h3 := cmpS_ord.anti b a
  split
  · exact ⟨by omega, by omega, .inr rfl⟩
  · have := cmpS_ord.anti a b; exact ⟨by omega, by omega, .inl rfl⟩
theorem maxS_le (a b : ByteArray) : cmpS a (maxS a b) ≤ 0 ∧ cmpS b (maxS a b) ≤ 0 ∧ (maxS a b = a ∨ maxS a b = b) := by
  unfold maxS
  have h1 := cmpS_ord.self a
  have h2 := cmpS_ord.self b
  have h3 := cmpS_ord.anti a b
  split
  · exact ⟨by omega, by omega, .inr rfl⟩
  · have := cmpS_ord.anti b a; exact ⟨by omega, by omega, .inl rfl⟩
theorem run_min_str {P : Program} (w : World) (ts : Array TypeId) (t : TypeId) (x y : ByteArray) : (Builtin.min_ ts t #[.string x, .string y]).run P w = .ok (.string (minS x y)) w := by
  have h0 := cmpS_ord.anti y x
  rcases le_cases x y with ⟨a1, a3⟩ | ⟨a1, a2, a3⟩ | ⟨a1, a2, a3⟩
  · have h3 := of_decide_eq_true a3
    simp [Builtin.min_, Builtin.min2, Op.stringOp, asBool, minS, a1, show ¬ cmpS y x < 0 by omega]
  · have h3 := of_decide_eq_true a3
    simp [Builtin.min_, Builtin.min2, Op.stringOp, asBool, minS, a1, a2, show ¬ cmpS y x < 0 by omega]
  · have h3 := of_decide_eq_false a3
    simp [Builtin.min_, Builtin.min2, Op.stringOp, asBool, minS, a1, a2, show cmpS y x < 0 by omega]
theorem run_max_str {P : Program} (w : World) (ts : Array TypeId) (t : TypeId) (x y : ByteArray) : (Builtin.max_ ts t #[.string x, .string y]).run P w = .ok (.string (maxS x y)) w := by
  have h := less_cmpS x y
  cases hb : Op.bytesLess x.toList y.toList
  · rw [hb] at h
    simp [Builtin.max_, Builtin.max2, Op.stringOp, asBool, maxS, hb, of_decide_eq_false h.symm]
  · rw [hb] at h
    simp [Builtin.max_, Builtin.max2, Op.stringOp, asBool, maxS, hb, of_decide_eq_true h.symm]
/-- Of the first strings the least, the greatest. -/
def minN (l : List ByteArray) (i : Nat) : ByteArray := ((l.take i).drop 1).foldl minS (l.getD 0 ByteArray.empty)
def maxN (l : List ByteArray) (i : Nat) : ByteArray := ((l.take i).drop 1).foldl maxS (l.getD 0 ByteArray.empty)
theorem takedrop (l : List ByteArray) (i : Nat) (h : i < l.length) (h1 : 1 ≤ i) : (l.take (i + 1)).drop 1 = (l.take i).drop 1 ++ [l.getD i ByteArray.empty] := by
  rw [List.take_succ_eq_append_getElem h, List.drop_append_of_le_length (by rw [List.length_take]; omega)]
  congr 2
  rw [List.getD_eq_getElem?_getD, List.getElem?_eq_getElem h]; rfl
theorem minN_succ (l : List ByteArray) (i : Nat) (h : i < l.length) (h1 : 1 ≤ i) : minN l (i + 1) = minS (minN l i) (l.getD i ByteArray.empty) := by
  unfold minN; rw [takedrop l i h h1, List.foldl_append]; rfl
theorem maxN_succ (l : List ByteArray) (i : Nat) (h : i < l.length) (h1 : 1 ≤ i) : maxN l (i + 1) = maxS (maxN l i) (l.getD i ByteArray.empty) := by
  unfold maxN; rw [takedrop l i h h1, List.foldl_append]; rfl
theorem minN_one (l : List ByteArray) : minN l 1 = l.getD 0 ByteArray.empty := by unfold minN; rw [List.drop_eq_nil_of_le (by rw [List.length_take]; omega)]; rfl
theorem maxN_one (l : List ByteArray) : maxN l 1 = l.getD 0 ByteArray.empty := by unfold maxN; rw [List.drop_eq_nil_of_le (by rw [List.length_take]; omega)]; rfl
set_option maxRecDepth 100000 in
set_option maxHeartbeats 8000000 in
theorem minL_any (ao : Option Addr) (n c : Nat) (l : List ByteArray) (w : World) (hE : StrsV w ao n l) (hn : n ≤ 1000) (h1 : 1 ≤ n) :
    Calls Try.prog 27 #[.slice ao n c] w fun e w' => e = .returned (.string (minN l n)) ∧ Below w.heap.size w w' := by
  have HE : Hid _ := hE
  clear hE
  obtain ⟨b, off, hao, hc⟩ := HE.out.2 (by omega)
  have c0 := hc 0 (by omega)
  rw [← minN_one l] at c0
  simp only [Nat.add_zero] at c0
  subst hao
  have hn1 : ¬ (n : Int) < 1 := by omega
  have hn0 : (0 : Int) < (n : Int) := by omega
  have HC : Hid _ := hc
  clear hc
  go_enter Try.func27, Try.ntmps27
  go_wp2
  go_loopw [3, 4] (fun s x wr => ∃ i : Nat, x = .int .i64 i ∧ 1 ≤ i ∧ i ≤ n ∧ s = .string (minN l i) ∧ Below w.heap.size w wr) (fun _ x _ => n - (intOf x).toNat)
  case atStart => exact ⟨1, rfl, by omega, by omega, rfl, Below.refl _ _⟩
  case round =>
    obtain ⟨i, rfl, hi1, hin, rfl, hbel⟩ := hrel
    by_cases hlt : i < n
    · have hltz : (i : Int) < (n : Int) := by omega
      have HS : Hid _ := minN_succ l i (by have := HE.out.1; omega) hi1
      have ci : wr.cell? ⟨b, off + i, none⟩ = some (.string (l.getD i ByteArray.empty)) := by
        rw [← HC.out i hlt]
        exact World.cell?_of_block (hbel.block b (World.block_lt_of_cell? w _ (HC.out i hlt)))
      obtain ⟨x, HX⟩ : ∃ x, Hid (l.getD i ByteArray.empty = x) := ⟨_, rfl⟩
      obtain ⟨m, HM⟩ : ∃ m, Hid (minN l i = m) := ⟨_, rfl⟩
      rw [HX.out, HM.out] at HS
      rw [HX.out] at ci
      rw [HM.out]
      have HB : Hid _ := hbel
      clear c0 hbel
      go_wp2_with fail
      rw [run_min_str]
      simp only [Result.andThen]
      rw [Oper.upon_value]
      go_wp2
      go_roundw
      case rel => exact ⟨i + 1, by go_num, by omega, by omega, by rw [HS.out], HB.out⟩
      case measure => simp [intOf]; omega
    · have hltz : ¬ (i : Int) < (n : Int) := by omega
      obtain rfl : i = n := by omega
      have HB : Hid _ := hbel
      clear c0 hbel
      go_wp2
      go_ret
      exact ⟨rfl, HB.out⟩
set_option maxRecDepth 100000 in
set_option maxHeartbeats 8000000 in
theorem maxL_any (ao : Option Addr) (n c : Nat) (l : List ByteArray) (w : World) (hE : StrsV w ao n l) (hn : n ≤ 1000) (h1 : 1 ≤ n) :
    Calls Try.prog 30 #[.slice ao n c] w fun e w' => e = .returned (.string (maxN l n)) ∧ Below w.heap.size w w' := by
  have HE : Hid _ := hE
  clear hE
  obtain ⟨b, off, hao, hc⟩ := HE.out.2 (by omega)
  have c0 := hc 0 (by omega)
  rw [← maxN_one l] at c0
  simp only [Nat.add_zero] at c0
  subst hao
  have hn1 : ¬ (n : Int) < 1 := by omega
  have hn0 : (0 : Int) < (n : Int) := by omega
  have HC : Hid _ := hc
  clear hc
  go_enter Try.func30, Try.ntmps30
  go_wp2
  go_loopw [3, 4] (fun s x wr => ∃ i : Nat, x = .int .i64 i ∧ 1 ≤ i ∧ i ≤ n ∧ s = .string (maxN l i) ∧ Below w.heap.size w wr) (fun _ x _ => n - (intOf x).toNat)
  case atStart => exact ⟨1, rfl, by omega, by omega, rfl, Below.refl _ _⟩
  case round =>
    obtain ⟨i, rfl, hi1, hin, rfl, hbel⟩ := hrel
    by_cases hlt : i < n
    · have hltz : (i : Int) < (n : Int) := by omega
      have HS : Hid _ := maxN_succ l i (by have := HE.out.1; omega) hi1
      have ci : wr.cell? ⟨b, off + i, none⟩ = some (.string (l.getD i ByteArray.empty)) := by
        rw [← HC.out i hlt]
        exact World.cell?_of_block (hbel.block b (World.block_lt_of_cell? w _ (HC.out i hlt)))
      obtain ⟨x, HX⟩ : ∃ x, Hid (l.getD i ByteArray.empty = x) := ⟨_, rfl⟩
      obtain ⟨m, HM⟩ : ∃ m, Hid (maxN l i = m) := ⟨_, rfl⟩
      rw [HX.out, HM.out] at HS
      rw [HX.out] at ci
      rw [HM.out]
      have HB : Hid _ := hbel
      clear c0 hbel
      go_wp2_with fail
      rw [run_max_str]
      simp only [Result.andThen]
      rw [Oper.upon_value]
      go_wp2
      go_roundw
      case rel => exact ⟨i + 1, by go_num, by omega, by omega, by rw [HS.out], HB.out⟩
      case measure => simp [intOf]; omega
    · have hltz : ¬ (i : Int) < (n : Int) := by omega
      obtain rfl : i = n := by omega
      have HB : Hid _ := hbel
      clear c0 hbel
      go_wp2
      go_ret
      exact ⟨rfl, HB.out⟩
end Go.Proofs.Ytnkbhojflcckmaa
