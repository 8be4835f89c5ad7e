/-
  The walk of marlstonelaw05.TreeWide, of any number of leaves and place.
-/
import Derived.Test.YtaebpnednhkfhaaDoorWideW
namespace Go.Proofs.YtaebpnednhkfhaaDoor
open Go.RowKit
set_option maxRecDepth 100000 in
set_option maxHeartbeats 20000000 in
theorem wide_no (cz iz : Int) (la : Option Addr) (ln lc : Nat) (lb : List UInt8) (pa : Option Addr) (bn bc : Nat) (w : World) (hno : ¬ (1 ≤ cz ∧ 0 ≤ iz ∧ iz < cz)) (hcz : cz ≤ 9223372036854775807)
    (hK : WW w 0 ks) (h0 : 0 < w.heap.size) (hB : Bytes w la ln lb) (hl0 : la = none → lc = 0) (hln : ln ≤ 140737488355000) :
    Calls Tryd.prog 10 #[.int .i64 cz, .int .i64 iz, .slice la ln lc, .slice pa bn bc] w fun e w' => e = .returned (.bool true) ∧ Below w.heap.size w w' := by
  have HSH : Hid (∀ W, Below w.heap.size w W → Calls Tryd.prog 20 #[] W fun e w' => e = .returned (.bool true) ∧ Below W.heap.size W w') := fun W hW => shown_any W (hK.below hW h0) (Nat.lt_of_lt_of_le h0 hW.size)
  have HC : Hid (∀ W, Below w.heap.size w W → Calls Tryd.prog 41 #[.agg #[Value.int IntKind.u8 0, Value.int IntKind.u8 0, Value.int IntKind.u8 0, Value.int IntKind.u8 0, Value.int IntKind.u8 0, Value.int IntKind.u8 0, Value.int IntKind.u8 0, Value.int IntKind.u8 0, Value.int IntKind.u8 0, Value.int IntKind.u8 0, Value.int IntKind.u8 0, Value.int IntKind.u8 0, Value.int IntKind.u8 0, Value.int IntKind.u8 0, Value.int IntKind.u8 0, Value.int IntKind.u8 0, Value.int IntKind.u8 0, Value.int IntKind.u8 0, Value.int IntKind.u8 0, Value.int IntKind.u8 0, Value.int IntKind.u8 0, Value.int IntKind.u8 0, Value.int IntKind.u8 0, Value.int IntKind.u8 0, Value.int IntKind.u8 0, Value.int IntKind.u8 0, Value.int IntKind.u8 0, Value.int IntKind.u8 0, Value.int IntKind.u8 0, Value.int IntKind.u8 0, Value.int IntKind.u8 0, Value.int IntKind.u8 0], .int .i64 cz, .int .i64 iz, .slice la ln lc, .slice none 0 0] W fun e w' => e = .returned (.bool false) ∧ Below W.heap.size W w') := fun W hW => by
    have h := checkN_any (List.replicate 32 0) cz iz la ln lc lb none 0 0 [] W (by simp) hcz rfl (Nat.le_refl _) (by omega) ⟨fun d h => by simp at h, fun h => by simp at h⟩ (bytes_kept hB hW (Nat.le_refl _)) hl0 hln (hK.below hW h0) (Nat.lt_of_lt_of_le h0 hW.size)
    have e : ckB 256 (List.replicate 32 0) cz iz lb [] = false := by
      unfold ckB
      rw [decide_eq_false (fun h => hno ⟨by omega, h.1, h.2.1⟩), Bool.false_and]
    rw [e] at h
    exact h
  clear hK h0 hB hl0 hln hcz
  by_cases h1 : cz < 1
  · have h1d : decide (cz < 1) = true := decide_eq_true h1
    go_enter Tryd.func10, Tryd.ntmps10
    go_wp2_with fail
    refine (HSH.out _ (Below.refl _ _)).mono ?_
    rintro e w1 ⟨rfl, hb1⟩
    have HB1 : Hid (Below w.heap.size w w1) := hb1
    clear hb1
    go_upto_region 3 with fail
    clear h1d
    go_wp2_with fail
    refine (HC.out _ HB1.out).mono ?_
    rintro e w2 ⟨rfl, hb2⟩
    have HB2 : Hid (Below w.heap.size w w2) := HB1.out.trans (hb2.mono HB1.out.size)
    clear hb2
    go_wp2_with fail
    go_ret
    exact ⟨rfl, HB2.out⟩
  · have h1d : decide (cz < 1) = false := decide_eq_false h1
    by_cases h2 : iz < 0
    · have h2d : decide (iz < 0) = true := decide_eq_true h2
      go_enter Tryd.func10, Tryd.ntmps10
      go_wp2_with fail
      refine (HSH.out _ (Below.refl _ _)).mono ?_
      rintro e w1 ⟨rfl, hb1⟩
      have HB1 : Hid (Below w.heap.size w w1) := hb1
      clear hb1
      go_upto_region 3 with fail
      clear h1d h2d
      go_wp2_with fail
      refine (HC.out _ HB1.out).mono ?_
      rintro e w2 ⟨rfl, hb2⟩
      have HB2 : Hid (Below w.heap.size w w2) := HB1.out.trans (hb2.mono HB1.out.size)
      clear hb2
      go_wp2_with fail
      go_ret
      exact ⟨rfl, HB2.out⟩
    · have h2d : decide (iz < 0) = false := decide_eq_false h2
      have h3 : cz ≤ iz := by omega
      have h3d : decide (cz ≤ iz) = true := decide_eq_true h3
      go_enter Tryd.func10, Tryd.ntmps10
      go_wp2_with fail
      refine (HSH.out _ (Below.refl _ _)).mono ?_
      rintro e w1 ⟨rfl, hb1⟩
      have HB1 : Hid (Below w.heap.size w w1) := hb1
      clear hb1
      go_upto_region 3 with fail
      clear h1d h2d h3 h3d
      go_wp2_with fail
      refine (HC.out _ HB1.out).mono ?_
      rintro e w2 ⟨rfl, hb2⟩
      have HB2 : Hid (Below w.heap.size w w2) := HB1.out.trans (hb2.mono HB1.out.size)
      clear hb2
      go_wp2_with fail
      go_ret
      exact ⟨rfl, HB2.out⟩
theorem wide_any (cz iz : Int) (la : Option Addr) (ln lc : Nat) (lb : List UInt8) (pa : Option Addr) (bn bc : Nat) (ds : List (List UInt8)) (w : World) (hcz : cz ≤ 9223372036854775807)
    (hK : WW w 0 ks) (h0 : 0 < w.heap.size) (hB : Bytes w la ln lb) (hl0 : la = none → lc = 0) (hlc : ln ≤ lc) (hlm : lc ≤ 140737488355000) (hPt : PathV w pa ds) (hpl : ds.length = bn) :
    Calls Tryd.prog 10 #[.int .i64 cz, .int .i64 iz, .slice la ln lc, .slice pa bn bc] w fun e w' => e = .returned (.bool true) ∧ Below w.heap.size w w' := by
  by_cases h : 1 ≤ cz ∧ 0 ≤ iz ∧ iz < cz
  · obtain ⟨N, rfl⟩ : ∃ m : Nat, cz = (m : Int) := ⟨cz.toNat, by omega⟩
    obtain ⟨i, rfl⟩ : ∃ m : Nat, iz = (m : Int) := ⟨iz.toNat, by omega⟩
    exact wide_walk N i la ln lc lb pa bn bc ds w (by omega) (by omega) hK h0 hB hl0 hlc hPt hpl
  · exact wide_no cz iz la ln lc lb pa bn bc w h hcz hK h0 hB hl0 (by omega)
end Go.Proofs.YtaebpnednhkfhaaDoor
