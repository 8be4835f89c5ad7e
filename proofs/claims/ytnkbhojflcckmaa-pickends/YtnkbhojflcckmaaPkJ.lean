/-
  'of this level, and overlaps this range': a contract over this translation.
-/
import Derived.Test.YtnkbhojflcckmaaPkF
namespace Go.Proofs.Ytnkbhojflcckmaa
open Go.RowKit
set_option linter.unusedSectionVars false
def touB (l : Int) (lo hi : ByteArray) (x : Tb) : Bool := decide (x.lv = l) && decide (cmpS x.first hi ≤ 0) && decide (cmpS lo x.last ≤ 0)
set_option maxRecDepth 100000 in
set_option maxHeartbeats 4000000 in
theorem tou_any (l : Int) (lo hi : ByteArray) (x : Tb) (w : World) : Calls Try.prog 22 #[.agg #[.int .i64 l, .string lo, .string hi], .agg (encT x).toArray] w fun e w' => e = .returned (.bool (touB l lo hi x)) ∧ Below w.heap.size w w' := by
  obtain ⟨W, HW⟩ : ∃ W, Hid ((w.alloc (.cells #[.int .i64 l, .string lo, .string hi] 45)).alloc (.cells (encT x).toArray 32) = W) := ⟨_, rfl⟩
  have hf := frame2 w (.cells #[.int .i64 l, .string lo, .string hi] 45) (encT x).toArray 32
  rw [HW.out] at hf
  obtain ⟨hf1, hf2, hf3, hf4⟩ := hf
  have HBX : Hid (Box W (w.heap.size + 1) x) := hf2
  have HB0 : Hid (W.heap[w.heap.size]? = some (.cells #[.int .i64 l, .string lo, .string hi] 45 (0, 0))) := hf1
  have c0 : W.cell? ⟨w.heap.size, 0, none⟩ = some (.int .i64 l) := by rw [cell_of_row _ _ _ _ _ _ hf1]; rfl
  have HBW : Hid (Below w.heap.size w W ∧ W.heap.size = w.heap.size + 2) := ⟨hf3, hf4⟩
  have CH : Hid _ := has_any l x W
  obtain ⟨b, HB⟩ : ∃ b, Hid (decide (x.lv = l) = b) := ⟨_, rfl⟩
  rw [HB.out] at CH
  obtain ⟨B, HBB⟩ : ∃ B, Hid (touB l lo hi x = B) := ⟨_, rfl⟩
  have HR : Hid (∀ p q, decide (cmpS x.first hi ≤ 0) = p → decide (cmpS lo x.last ≤ 0) = q → B = (b && p && q)) := fun p q hp hq => by rw [← HBB.out, touB, HB.out, hp, hq]
  rw [HBB.out]
  clear hf1 hf2 hf3 hf4
  go_enter Try.func22, Try.ntmps22
  go_upto_region 1 with fail
  rw [HW.out]
  go_wp2_with (refine wpList_load_row rfl 32 (.tmp 3) rfl (w.heap.size + 1) rfl 32 (encT x).toArray (0, 0) _ HBX.out Try.underlying32 rfl (sizeTA _) ?_)
  refine Calls.mono CH.out ?_
  rintro e w1 ⟨rfl, hb1⟩
  have HB1 : Hid (Below w.heap.size w w1) := HBW.out.1.trans (hb1.mono HBW.out.1.size)
  have d0 := cell_kept hb1 (by rw [HBW.out.2]; omega) HBX.out.four.2.2.1
  have d1 := cell_kept hb1 (by rw [HBW.out.2]; omega) HBX.out.four.2.2.2
  have d2 : w1.cell? ⟨w.heap.size, 1, none⟩ = some (.string lo) := cell_kept hb1 (by rw [HBW.out.2]; omega) (by rw [cell_of_row _ _ _ _ _ _ HB0.out]; rfl)
  have d3 : w1.cell? ⟨w.heap.size, 2, none⟩ = some (.string hi) := cell_kept hb1 (by rw [HBW.out.2]; omega) (by rw [cell_of_row _ _ _ _ _ _ HB0.out]; rfl)
  clear hb1 c0 CH

  have ge_flip : decide (cmpS lo x.last ≤ 0) = !(Op.bytesLess x.last.toList lo.toList) := by
    rw [less_cmpS]
    have := cmpS_ord.anti x.last lo
    by_cases h : cmpS lo x.last ≤ 0
    · rw [decide_eq_true h, decide_eq_false (by omega)]; rfl
    · rw [decide_eq_false h, decide_eq_true (by omega)]; rfl

  cases b with
  | false =>
    have H0 : Hid (B = false) := HR.out _ _ rfl rfl
    clear HR ge_flip
    go_wp2
    go_ret
    exact ⟨by rw [H0.out]; rfl, HB1.out⟩
  | true =>
    cases hL : Op.bytesLess x.last.toList lo.toList <;>
      (rw [hL] at ge_flip
       simp only [Bool.not_true, Bool.not_false] at ge_flip
       rcases le_cases x.first hi with ⟨a1, a3⟩ | ⟨a1, a2, a3⟩ | ⟨a1, a2, a3⟩ <;>
        (have H0 : Hid _ := HR.out _ _ a3 ge_flip
         clear a3 HR ge_flip
         go_wp2
         go_ret
         exact ⟨by rw [H0.out]; rfl, HB1.out⟩))
end Go.Proofs.Ytnkbhojflcckmaa
