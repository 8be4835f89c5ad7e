/-
  MemLast: the walk.
-/
import Derived.Test.YtaamekkbgaeafaaDoorMmR
import Derived.Lib.MinMax
namespace Go.Proofs.YtaamekkbgaeafaaDoor
open Go.RowKit
set_option linter.unusedSectionVars false
set_option linter.unusedVariables false
variable [Inhabited E] [DecidableEq E]
theorem and40 (n : Int) : bits .and .i64 n 1099511627775 = n % 1099511627776 := by
  have hm : (BitVec.ofInt 64 1099511627775).toNat = 2 ^ 40 - 1 := by decide
  have key : (BitVec.ofInt 64 n &&& BitVec.ofInt 64 1099511627775).toNat = (n % ((2 ^ 64 : Nat) : Int)).toNat % 2 ^ 40 := by
    rw [BitVec.toNat_and, BitVec.toNat_ofInt, hm, Nat.and_two_pow_sub_one_eq_mod]
  show IntKind.i64.wrap ((BitVec.ofInt 64 n &&& BitVec.ofInt 64 1099511627775).toNat : Nat) = n % 1099511627776
  rw [key, IntKind.wrap_i64]
  omega
def ek (y : Int) : E := ⟨⟨#[107]⟩, ⟨#[]⟩, false, y⟩
theorem ek_k (y : Int) : (ek y).key.size ≤ 9223372036854775807 := show 1 ≤ 9223372036854775807 by omega
theorem ek_v (y : Int) : (ek y).value.size ≤ 9223372036854775807 := show 0 ≤ 9223372036854775807 by omega
theorem ek_right {y : Int} (h1 : 1 ≤ y) (h2 : y ≤ 1099511627776) : rightB (ek y) = true := by
  unfold rightB
  simp only [decide_eq_true_eq]
  exact ⟨show 1 ≤ 1 by omega, show 1 ≤ 128 by omega, show 0 ≤ 1024 by omega, (fun h => by cases h), h1, h2⟩
theorem put_last {A : Mm} {y1 y2 : Int} (hl : A.last = y1) (hn : A.es.length < 64) (h1 : 1 ≤ y2) (h2 : y2 ≤ 1099511627776) :
    (y2 ≤ y1 → putN A (ek y2) = 1 ∧ (putA A (ek y2)).last = y1) ∧ (y1 < y2 → putN A (ek y2) = 0 ∧ (putA A (ek y2)).last = y2) := by
  constructor
  · intro h
    have h3 : putN A (ek y2) = 1 := by unfold putN; rw [if_pos (.inr (by rw [hl]; exact h))]
    exact ⟨h3, by rw [putA, if_neg (by rw [h3]; decide)]; exact hl⟩
  · intro h
    have h3 : putN A (ek y2) = 0 := putN_ok (ek_right h1 h2) (by rw [hl]; exact h) hn
    exact ⟨h3, by rw [putA_ok h3]; rfl⟩
set_option maxRecDepth 100000 in
set_option maxHeartbeats 2000000 in
theorem last_walk (a b : Int) (c : Bool) (w : World) (hK : KK w) :
    Calls Tryd.prog 8 #[.int .i64 a, .int .i64 b, .bool c] w fun e w' => e = .returned (.bool true) ∧ Below w.heap.size w w' := by
  have hk2 := hK.2
  obtain ⟨B, HB⟩ : ∃ B, Hid (w.heap.size = B) := ⟨_, rfl⟩
  rw [HB.out] at hk2
  rw [HB.out]
  obtain ⟨x1, hx1, HX1⟩ : ∃ x : Nat, bits .and .i64 a 1099511627775 = (x : Int) ∧ Hid (x < 1099511627776) := ⟨(a % 1099511627776).toNat, by rw [and40]; omega, by show _ < _; omega⟩
  obtain ⟨x2, hx2, HX2⟩ : ∃ x : Nat, bits .and .i64 b 1099511627775 = (x : Int) ∧ Hid (x < 1099511627776) := ⟨(b % 1099511627776).toNat, by rw [and40]; omega, by show _ < _; omega⟩
  obtain ⟨y1, hy1⟩ : ∃ y : Int, wrap64 (1 + (x1 : Int)) = y := ⟨_, rfl⟩
  obtain ⟨y2, hy2⟩ : ∃ y : Int, wrap64 (1 + (x2 : Int)) = y := ⟨_, rfl⟩
  go_enter Tryd.func8, Tryd.ntmps8
  have HY1 : Hid (y1 = 1 + (x1 : Int)) := by show _ = _; rw [← hy1]; have := HX1.out; unfold wrap64; omega
  have HY2 : Hid (y2 = 1 + (x2 : Int)) := by show _ = _; rw [← hy2]; have := HX2.out; unfold wrap64; omega
  go_wp2_with (go_at_call 9; refine (shown_any w hK).mono ?_; rintro e w1 ⟨rfl, hb1, hk1⟩)
  rw [HB.out] at hb1
  have hs1 : B ≤ w1.heap.size := by have := hb1.size; rw [HB.out] at this; exact this
  refine (new_fr B w1 hk1 hs1 hk2).mono ?_
  rintro e w2 ⟨g, rfl, hM2, hb2, hk2x⟩
  have hb2x := hb1.trans hb2
  have hs2 := Nat.le_trans hs1 hb2.size
  clear hk1 hb1 hb2 hs1 hK
  go_wp2_with fail
  simp only [hy1, hy2]
  clear hy1 hy2 hx1 hx2
  have hp1 : putN mm0 (ek y1) = 0 := putN_ok (ek_right (by have := HY1.out; omega) (by have := HY1.out; have := HX1.out; omega)) (by show (0 : Int) < y1; have := HY1.out; omega) (by decide)
  refine (put_fr B g mm0 (ek y1) w2 hM2 hk2x hs2 hk2 (ek_k _) (ek_v _)).mono ?_
  rw [putA_ok hp1, hp1]
  rintro e w3 ⟨rfl, hM3, hb3, hk3⟩
  have hb3x := hb2x.trans hb3
  have hs3 := Nat.le_trans hs2 hb3.size
  clear hM2 hk2x hb3 hs2 hb2x hp1
  cases c with
  | false =>
    go_wp2_with fail
    refine (put_fr B g ⟨insS mm0.es (ek y1), (ek y1).seq, linkB mm0.ch (ek y1)⟩ (ek y2) w3 hM3 hk3 hs3 hk2 (ek_k _) (ek_v _)).mono ?_
    rintro e w5 ⟨rfl, hM5, hb5, hk5⟩
    have hb5x := hb3x.trans hb5
    have HP : Hid _ := put_last (A := ⟨insS mm0.es (ek y1), (ek y1).seq, linkB mm0.ch (ek y1)⟩) (y1 := y1) (y2 := y2) rfl (by show 1 < 64; omega) (by have := HY2.out; omega) (by have := HY2.out; have := HX2.out; omega)
    clear hb5 hk5 hM3 hk3 hs3 hb3x
    by_cases h12 : y2 ≤ y1
    · obtain ⟨p1, p2⟩ := HP.out.1 h12
      have hl := last_any _ g _ w5 hM5
      rw [p2] at hl
      have HL : Hid (Calls Tryd.prog 22 #[.pointer (some ⟨g, 0, none⟩)] w5 fun e w' => e = .returned (.int .i64 y1) ∧ w' = w5) := hl
      rw [p1]
      have hmax : max y1 y2 = y1 := by omega
      have d1 : decide (y1 < y2) = false := by simpa using h12
      have d2 : ¬ y1 < y2 := by omega
      clear HP hl p1 p2 hM5
      go_wp2_with (go_at_call 22; refine Calls.mono HL.out ?_; rintro e wx ⟨rfl, rfl⟩)
      go_ret
      exact ⟨rfl, hb5x⟩
    · have h21 : y1 < y2 := by omega
      obtain ⟨p1, p2⟩ := HP.out.2 h21
      have hl := last_any _ g _ w5 hM5
      rw [p2] at hl
      have HL : Hid (Calls Tryd.prog 22 #[.pointer (some ⟨g, 0, none⟩)] w5 fun e w' => e = .returned (.int .i64 y2) ∧ w' = w5) := hl
      rw [p1]
      have hmax : max y1 y2 = y2 := by omega
      have d1 : decide (y1 < y2) = true := by simpa using h21
      clear HP hl p1 p2 hM5 h12
      go_wp2_with (go_at_call 22; refine Calls.mono HL.out ?_; rintro e wx ⟨rfl, rfl⟩)
      go_ret
      exact ⟨rfl, hb5x⟩
  | true =>
    go_wp2_with fail
    refine (clear_fr B g _ w3 hM3 hk3 hs3 hk2).mono ?_
    rintro e w4 ⟨rfl, hM4, hb4, hk4⟩
    have hb4x := hb3x.trans hb4
    have hs4 := Nat.le_trans hs3 hb4.size
    clear hM3 hk3 hb4 hs3 hb3x
    go_wp2_with fail
    refine (put_fr B g ⟨[], (ek y1).seq, noneB⟩ (ek y2) w4 hM4 hk4 hs4 hk2 (ek_k _) (ek_v _)).mono ?_
    rintro e w5 ⟨rfl, hM5, hb5, hk5⟩
    have hb5x := hb4x.trans hb5
    have HP : Hid _ := put_last (A := ⟨[], (ek y1).seq, noneB⟩) (y1 := y1) (y2 := y2) rfl (by show 0 < 64; omega) (by have := HY2.out; omega) (by have := HY2.out; have := HX2.out; omega)
    clear hb5 hk5 hM4 hk4 hs4 hb4x
    by_cases h12 : y2 ≤ y1
    · obtain ⟨p1, p2⟩ := HP.out.1 h12
      have hl := last_any _ g _ w5 hM5
      rw [p2] at hl
      have HL : Hid (Calls Tryd.prog 22 #[.pointer (some ⟨g, 0, none⟩)] w5 fun e w' => e = .returned (.int .i64 y1) ∧ w' = w5) := hl
      rw [p1]
      have hmax : max y1 y2 = y1 := by omega
      have d1 : decide (y1 < y2) = false := by simpa using h12
      have d2 : ¬ y1 < y2 := by omega
      clear HP hl p1 p2 hM5
      go_wp2_with (go_at_call 22; refine Calls.mono HL.out ?_; rintro e wx ⟨rfl, rfl⟩)
      go_ret
      exact ⟨rfl, hb5x⟩
    · have h21 : y1 < y2 := by omega
      obtain ⟨p1, p2⟩ := HP.out.2 h21
      have hl := last_any _ g _ w5 hM5
      rw [p2] at hl
      have HL : Hid (Calls Tryd.prog 22 #[.pointer (some ⟨g, 0, none⟩)] w5 fun e w' => e = .returned (.int .i64 y2) ∧ w' = w5) := hl
      rw [p1]
      have hmax : max y1 y2 = y2 := by omega
      have d1 : decide (y1 < y2) = true := by simpa using h21
      clear HP hl p1 p2 hM5 h12
      go_wp2_with (go_at_call 22; refine Calls.mono HL.out ?_; rintro e wx ⟨rfl, rfl⟩)
      go_ret
      exact ⟨rfl, hb5x⟩
end Go.Proofs.YtaamekkbgaeafaaDoor
