/-
  What marlstoneref11.Get answers: a contract over this translation.
-/
import Derived.Test.YtcgjhopfdpaocaaDoorTbRp
import Derived.Test.YtcgjhopfdpaocaaDoorTbBk
namespace Go.Proofs.YtcgjhopfdpaocaaDoor
open Go.RowKit Go.Sort Go.Shelf
set_option linter.unusedSectionVars false
variable [Inhabited E] [DecidableEq E]
theorem isIn_none {l : List E} {key : ByteArray} (h : ∀ j, j < l.length → l[j]!.key ≠ key) : isIn key l = false := by
  unfold isIn
  rw [List.any_eq_false]
  intro e he
  obtain ⟨j, hj, rfl⟩ := List.getElem_of_mem he
  have := h j hj
  rw [getElem!_pos l j hj] at this
  simpa using this
set_option maxRecDepth 100000 in
set_option maxHeartbeats 4000000 in
theorem refGetT_any (bs : List UInt8) (key : ByteArray) (w : World) (hs : bs.length ≤ 8000) :
    Calls Tryd.prog 24 #[.string (bStr bs), .string key] w fun e w' => GetT bs key e ∧ Below w.heap.size w w' := by
  have HCP : Hid (∀ W, Calls Tryd.prog 22 #[.string (bStr bs)] W fun e w' => ParT W.heap.size bs e w' ∧ Below W.heap.size W w') := fun W => refParseT_any bs W hs
  obtain ⟨S, HS⟩ : ∃ S, Hid (bStr bs = S) := ⟨_, rfl⟩
  rw [HS.out] at HCP ⊢
  clear hs
  go_enter Tryd.func24, Tryd.ntmps24
  go_wp2_with fail
  refine (HCP.out _).mono ?_
  rintro e w1 ⟨he, hb1⟩
  have hR : w1.heap[w.heap.size]? = some (.cells #[.string ByteArray.empty, .string ByteArray.empty, .bool false, .int .i64 0] 51 (0, 0)) := by
    rw [hb1.block w.heap.size (by simp)]; exact heap_alloc_new w _
  have HR : Hid _ := hR
  have HB1 : Hid (Below w.heap.size w w1) := (bel_alloc w _).trans (hb1.mono (by simp))
  have r0 : w1.cell? ⟨w.heap.size, 0, none⟩ = some (.string ByteArray.empty) := by simp [World.cell?, hR]
  have r1 : w1.cell? ⟨w.heap.size, 1, none⟩ = some (.string ByteArray.empty) := by simp [World.cell?, hR]
  have r2 : w1.cell? ⟨w.heap.size, 2, none⟩ = some (.bool false) := by simp [World.cell?, hR]
  have r3 : w1.cell? ⟨w.heap.size, 3, none⟩ = some (.int .i64 0) := by simp [World.cell?, hR]
  have y0 : ∀ j, w1.frozen? ⟨w.heap.size, j, none⟩ = false := fun j => by simp [World.frozen?, hR]
  clear hb1 hR HCP
  rcases he with ⟨rfl, hno⟩ | ⟨g, c, l, rfl, hIF, hown⟩
  · have HNO : Hid (NoFile bs) := hno
    clear hno
    go_wp2
    refine bodyPost_ret (results_entry3 rfl _ _ w.heap.size 51 _ _ rfl (heap_four _ _ _ _ _ _ _ _ _ _ _ HR.out) (by exact size23)) rfl ?_
    exact ⟨.inl ⟨rfl, HNO.out⟩, bel_four HB1.out (Nat.le_refl _) _ _ _ _⟩
  · have HIF : Hid (IsFile bs l) := hIF
    have hpos := (fit_len hIF.1).1
    have hlen := (fit_len hIF.1).2
    obtain ⟨g2, c2, hv2, hEn, -⟩ := own_shapeT hown hpos
    injection hv2 with e1 e2 e3
    injection e1 with e1
    injection e1 with e1
    subst e1
    have HEn : Hid (Ents w1 g 0 l) := hEn
    obtain ⟨L, HLL⟩ : ∃ L, Hid (l.length = L) := ⟨_, rfl⟩
    rw [HLL.out] at hpos hlen ⊢
    have hL64 : (L : Int) ≤ 64 := by omega
    clear hIF hown hEn e2 e3
    go_wp2
    go_loopw [9] (fun x wr => ∃ i : Nat, x = .int .i64 (i : Int) ∧ i ≤ L ∧ Hid (∀ j, j < i → l[j]!.key ≠ key) ∧ wr = w1) (fun x _ => L - (intOf x).toNat)
    case atStart => exact ⟨0, rfl, Nat.zero_le _, (fun j hj => absurd hj (by omega)), rfl⟩
    case round =>
      obtain ⟨i, rfl, hil, HNO, hwr⟩ := hrel
      subst hwr
      by_cases hlt : i < L
      · have hltz : (i : Int) < (L : Int) := by omega
        obtain ⟨k0, v0, d0, q0, HX⟩ : ∃ k0 v0 d0 q0, Hid (l[i]! = E.mk k0 v0 d0 q0) := ⟨_, _, _, _, rfl⟩
        obtain ⟨c0, c1, c2', c3⟩ := ents_four HEn.out i (by rw [HLL.out]; exact hlt) HX.out
        simp only [Nat.zero_add] at c0 c1 c2' c3
        by_cases hk : k0 = key
        · subst hk
          have HSV : Hid (getVT l k0 = .tuple #[.agg #[.string k0, .string v0, .bool d0, .int .i64 q0], .bool true, .int .i64 0]) := getVT_at HIF.out.1 (by rw [HLL.out]; exact hlt) HX.out
          clear hpos hlen
          go_wp2
          refine bodyPost_ret (results_entry3 rfl _ _ w.heap.size 51 _ _ rfl (heap_four _ _ _ _ _ _ _ _ _ _ _ HR.out) (by exact size23)) rfl ?_
          refine ⟨.inr ⟨l, ?_, HIF.out⟩, bel_four HB1.out (Nat.le_refl _) _ _ _ _⟩
          rw [HSV.out]
          rfl
        · have hkz : (k0.toList == key.toList) = false := by
            have := bstr_eq (a := strB k0) (b := strB key)
            rw [bStr_strB, bStr_strB] at this
            rw [this]
            exact decide_eq_false (fun h => hk (by rw [← bStr_strB k0, h, bStr_strB]))
          have HNX : Hid (∀ j, j < i + 1 → l[j]!.key ≠ key) := fun j hj => by
            by_cases e : j = i
            · subst e; rw [HX.out]; exact hk
            · exact HNO.out j (by omega)
          clear hk hpos hlen r0 r1 r2 r3 y0 c1 c2' c3
          go_wp2
          go_roundw
          case rel => exact ⟨i + 1, by go_num, hlt, HNX, by first | rfl | trivial⟩
          case measure => simp [intOf]; omega
      · have hltz : ¬ (i : Int) < (L : Int) := by omega
        have HSV : Hid (getVT l key = .tuple #[zeroE, .bool false, .int .i64 0]) := by
          show _ = _
          unfold getVT
          rw [isIn_none (fun j hj => HNO.out j (by rw [HLL.out] at hj; omega))]; rfl
        clear hpos hlen hlt hil
        go_wp2
        refine bodyPost_ret (results_entry3 rfl _ _ w.heap.size 51 _ _ rfl (heap_four _ _ _ _ _ _ _ _ _ _ _ HR.out) (by exact size23)) rfl ?_
        refine ⟨.inr ⟨l, ?_, HIF.out⟩, bel_four HB1.out (Nat.le_refl _) _ _ _ _⟩
        rw [HSV.out]
        rfl
end Go.Proofs.YtcgjhopfdpaocaaDoor
