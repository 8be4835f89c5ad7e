/-
  What marlstoneref05.Check answers: a contract over this translation.
-/
import Derived.Test.YtaebpnednhkfhaaDoorRefAb
import Derived.Test.YtaebpnednhkfhaaDoorAll
namespace Go.Proofs.YtaebpnednhkfhaaDoor
open Go.RowKit
set_option maxHeartbeats 2000000 in
set_option maxRecDepth 100000 in
theorem refCheck_wrong (z : Int) (root : List UInt8) (n x : Int) (sv pa : Value) (w : World) (hno : ¬ (0 ≤ x ∧ x < n)) :
    Calls Tryd.prog 42 #[.int .i64 z, dv root, .int .i64 n, .int .i64 x, sv, pa] w fun e w' => e = .returned (.bool false) ∧ Below w.heap.size w w' := by
  unfold dv
  obtain ⟨cr, HCR⟩ : ∃ c, Hid ((cellsOf root).toArray = c) := ⟨_, rfl⟩
  rw [HCR.out]
  by_cases h1 : x < 0
  · clear hno
    go_enter Tryd.func42, Tryd.ntmps42
    go_wp2
    go_ret
    exact ⟨rfl, bel_alloc _ _⟩
  · have h1d : decide (x < 0) = false := decide_eq_false h1
    have h3 : n ≤ x := by omega
    clear hno
    go_enter Tryd.func42, Tryd.ntmps42
    go_wp2
    go_ret
    exact ⟨rfl, bel_alloc _ _⟩
set_option maxHeartbeats 4000000 in
set_option maxRecDepth 100000 in
theorem refCheck_some (z : Int) (root : List UInt8) (n x : Nat) (s : ByteArray) (ao : Option Addr) (c : Nat) (ds : List (List UInt8)) (w : World) (hroot : root.length = 32) (hx : x < n) (hn : n ≤ 9223372036854775807) (hd : ds.length ≤ 1000) (hc : ds.length ≤ c) (hP : PathV w ao ds) (hs : s.size ≤ 1000) (hz : -9223372036854775808 ≤ z ∧ z ≤ 9223372036854775807) :
    Calls Tryd.prog 42 #[.int .i64 z, dv root, .int .i64 (n : Int), .int .i64 (x : Int), .string s, .slice ao ds.length c] w fun e w' => e = .returned (.bool (ckB z root n x (strB s) ds)) ∧ Below w.heap.size w w' := by
  have HA : Hid (∀ W, Below w.heap.size w W → Calls Tryd.prog 68 #[.int .i64 z, .int .i64 (n : Int), .int .i64 (x : Int), .string s, .slice ao ds.length c] W fun e w' => ∃ d ok, e = .returned (.tuple #[dv d, .bool ok]) ∧ AbV z s n x ds d ok ∧ Below W.heap.size W w') := fun W hW => refAbove_any z hz s hs n x ao c ds W hx hn hd hc (hP.below hW (Nat.le_refl _))
  have HCK : Hid (∀ d ok, AbV z s n x ds d ok → ckB z root n x (strB s) ds = (ok && (d == root))) := fun d ok h => by
    unfold ckB
    rw [Int.toNat_natCast, Int.toNat_natCast]
    cases ok with
    | false =>
      have h1 : ¬ ds.length = (upL n x).length := of_decide_eq_false h.2.1.symm
      rw [decide_eq_false (fun hh => h1 hh.2.2)]; rfl
    | true =>
      have h1 : ds.length = (upL n x).length := of_decide_eq_true h.2.1.symm
      rw [decide_eq_true ⟨by omega, by omega, h1⟩, ← h.2.2 rfl]
  have HRL : Hid (root.length = 32) := hroot
  have HIR : Hid ((Tryd.prog.info? 24).map (·.size) = some (cellsOf root).toArray.size) := by show _ = _; rw [size24, dig_size hroot]
  obtain ⟨L, HL⟩ : ∃ L : Nat, Hid (ds.length = L) := ⟨_, rfl⟩
  rw [HL.out] at HA ⊢
  have y1 : ¬ (x : Int) < 0 := by omega
  have y1d : decide ((x : Int) < 0) = false := decide_eq_false y1
  have y2 : ¬ (n : Int) ≤ (x : Int) := by omega
  have y2d : decide ((n : Int) ≤ (x : Int)) = false := decide_eq_false y2
  have y2n : decide (n ≤ x) = false := decide_eq_false (by omega)
  clear hroot hx hn hd hc hP hs hz
  unfold dv
  obtain ⟨cr, HCR⟩ : ∃ c, Hid ((cellsOf root).toArray = c) := ⟨_, rfl⟩
  rw [HCR.out] at HIR ⊢
  obtain ⟨res, HRES⟩ : ∃ b, Hid (ckB z root n x (strB s) ds = b) := ⟨_, rfl⟩
  rw [HRES.out]
  go_enter Tryd.func42, Tryd.ntmps42
  have HN0 : Hid ((w.alloc (.cells cr 24)).heap[w.heap.size]? = some (.cells cr 24 (0, 0))) := heap_alloc_new w _
  have HB0 : Hid (Below w.heap.size w (w.alloc (.cells cr 24))) := bel_alloc w _
  go_wp2_with fail
  obtain ⟨W0, HW0⟩ : ∃ W, Hid (w.alloc (.cells cr 24) = W) := ⟨_, rfl⟩
  rw [HW0.out] at HN0 HB0 ⊢
  clear HW0 y1 y1d y2 y2d y2n
  refine (HA.out _ HB0.out).mono ?_
  rintro e w1 ⟨d, ok, rfl, hab, hb1⟩
  have HCKD : Hid ((ok && (d == root)) = res) := by show _ = _; rw [← HRES.out, HCK.out d ok hab]
  have HDL : Hid (d.length = 32) := hab.1
  have HID : Hid ((Tryd.prog.info? 24).map (·.size) = some (cellsOf d).toArray.size) := by show _ = _; rw [size24, dig_size hab.1]
  have HN1 : Hid (w1.heap[w.heap.size]? = some (.cells cr 24 (0, 0))) := (hb1.block _ (Array.getElem?_eq_some_iff.1 HN0.out).1).trans HN0.out
  have HB1 : Hid (Below w.heap.size w w1) := HB0.out.trans (hb1.mono HB0.out.size)
  clear hab hb1 HA HCK HN0 HB0
  unfold dv
  have HN2 : Hid ((w1.alloc (.cells #[Value.int IntKind.u8 0, Value.int IntKind.u8 0, Value.int IntKind.u8 0, Value.int IntKind.u8 0, Value.int IntKind.u8 0, Value.int IntKind.u8 0, Value.int IntKind.u8 0, Value.int IntKind.u8 0, Value.int IntKind.u8 0, Value.int IntKind.u8 0, Value.int IntKind.u8 0, Value.int IntKind.u8 0, Value.int IntKind.u8 0, Value.int IntKind.u8 0, Value.int IntKind.u8 0, Value.int IntKind.u8 0, Value.int IntKind.u8 0, Value.int IntKind.u8 0, Value.int IntKind.u8 0, Value.int IntKind.u8 0, Value.int IntKind.u8 0, Value.int IntKind.u8 0, Value.int IntKind.u8 0, Value.int IntKind.u8 0, Value.int IntKind.u8 0, Value.int IntKind.u8 0, Value.int IntKind.u8 0, Value.int IntKind.u8 0, Value.int IntKind.u8 0, Value.int IntKind.u8 0, Value.int IntKind.u8 0, Value.int IntKind.u8 0] 24)).heap[w1.heap.size]? = some (.cells #[Value.int IntKind.u8 0, Value.int IntKind.u8 0, Value.int IntKind.u8 0, Value.int IntKind.u8 0, Value.int IntKind.u8 0, Value.int IntKind.u8 0, Value.int IntKind.u8 0, Value.int IntKind.u8 0, Value.int IntKind.u8 0, Value.int IntKind.u8 0, Value.int IntKind.u8 0, Value.int IntKind.u8 0, Value.int IntKind.u8 0, Value.int IntKind.u8 0, Value.int IntKind.u8 0, Value.int IntKind.u8 0, Value.int IntKind.u8 0, Value.int IntKind.u8 0, Value.int IntKind.u8 0, Value.int IntKind.u8 0, Value.int IntKind.u8 0, Value.int IntKind.u8 0, Value.int IntKind.u8 0, Value.int IntKind.u8 0, Value.int IntKind.u8 0, Value.int IntKind.u8 0, Value.int IntKind.u8 0, Value.int IntKind.u8 0, Value.int IntKind.u8 0, Value.int IntKind.u8 0, Value.int IntKind.u8 0, Value.int IntKind.u8 0] 24 (0, 0))) := heap_alloc_new w1 _
  go_upto_region 4 with (refine wpList_store_row rfl 24 (.tmp 13) (.tmp 29) rfl w1.heap.size (cellsOf d).toArray rfl rfl 24 _ HN2.out (by rw [size24, dig_size HDL.out]) (by rw [dig_size HDL.out]; rfl) (cells_all _) ?_)
  have HR2 := setRow_heap _ _ _ (cellsOf d).toArray _ _ HN2.out
  have HB2 : Below w1.heap.size w1 ((w1.alloc (.cells #[Value.int IntKind.u8 0, Value.int IntKind.u8 0, Value.int IntKind.u8 0, Value.int IntKind.u8 0, Value.int IntKind.u8 0, Value.int IntKind.u8 0, Value.int IntKind.u8 0, Value.int IntKind.u8 0, Value.int IntKind.u8 0, Value.int IntKind.u8 0, Value.int IntKind.u8 0, Value.int IntKind.u8 0, Value.int IntKind.u8 0, Value.int IntKind.u8 0, Value.int IntKind.u8 0, Value.int IntKind.u8 0, Value.int IntKind.u8 0, Value.int IntKind.u8 0, Value.int IntKind.u8 0, Value.int IntKind.u8 0, Value.int IntKind.u8 0, Value.int IntKind.u8 0, Value.int IntKind.u8 0, Value.int IntKind.u8 0, Value.int IntKind.u8 0, Value.int IntKind.u8 0, Value.int IntKind.u8 0, Value.int IntKind.u8 0, Value.int IntKind.u8 0, Value.int IntKind.u8 0, Value.int IntKind.u8 0, Value.int IntKind.u8 0] 24)).setRow w1.heap.size (cellsOf d).toArray) := below_row (bel_alloc w1 _) (Nat.le_refl _) _
  obtain ⟨w2, HW2⟩ : ∃ W, Hid ((w1.alloc (.cells #[Value.int IntKind.u8 0, Value.int IntKind.u8 0, Value.int IntKind.u8 0, Value.int IntKind.u8 0, Value.int IntKind.u8 0, Value.int IntKind.u8 0, Value.int IntKind.u8 0, Value.int IntKind.u8 0, Value.int IntKind.u8 0, Value.int IntKind.u8 0, Value.int IntKind.u8 0, Value.int IntKind.u8 0, Value.int IntKind.u8 0, Value.int IntKind.u8 0, Value.int IntKind.u8 0, Value.int IntKind.u8 0, Value.int IntKind.u8 0, Value.int IntKind.u8 0, Value.int IntKind.u8 0, Value.int IntKind.u8 0, Value.int IntKind.u8 0, Value.int IntKind.u8 0, Value.int IntKind.u8 0, Value.int IntKind.u8 0, Value.int IntKind.u8 0, Value.int IntKind.u8 0, Value.int IntKind.u8 0, Value.int IntKind.u8 0, Value.int IntKind.u8 0, Value.int IntKind.u8 0, Value.int IntKind.u8 0, Value.int IntKind.u8 0] 24)).setRow w1.heap.size (cellsOf d).toArray = W) := ⟨_, rfl⟩
  rw [HW2.out] at HR2 HB2 ⊢
  have HR2 : Hid _ := HR2
  have HC2 : Hid (w2.heap[w.heap.size]? = some (.cells cr 24 (0, 0))) := (HB2.block _ (Array.getElem?_eq_some_iff.1 HN1.out).1).trans HN1.out
  have HBW : Hid (Below w.heap.size w w2) := HB1.out.trans (HB2.mono HB1.out.size)
  clear HW2 HN2 HB2
  cases ok with
  | false =>
    have hres : res = false := by rw [← HCKD.out]; rfl
    subst hres
    go_wp2_with fail
    go_ret
    exact ⟨rfl, HBW.out⟩
  | true =>
    have heq := equalIn_dig d root HDL.out HRL.out
    rw [HCR.out, show (d == root) = res from by rw [← HCKD.out]; rfl] at heq
    have hg := guard24
    go_wp2_with (first | (refine wpList_load_rowG (by rfl) 24 (.tmp 13) rfl w1.heap.size rfl 24 (cellsOf d).toArray (0, 0) _ HR2.out Tryd.underlying24 rfl HID.out ?_) | (refine wpList_load_rowG (by rfl) 24 (.tmp 7) rfl w.heap.size rfl 24 cr (0, 0) _ HC2.out Tryd.underlying24 rfl HIR.out ?_))
    go_ret
    exact ⟨rfl, HBW.out⟩
theorem refCheck_any (z : Int) (root : List UInt8) (n x : Int) (s : ByteArray) (ao : Option Addr) (L c : Nat) (ds : List (List UInt8)) (w : World) (hroot : root.length = 32) (hn : n ≤ 9223372036854775807) (hl : ds.length = L) (hd : L ≤ 1000) (hc : L ≤ c) (hP : PathV w ao ds) (hs : s.size ≤ 1000) (hz : -9223372036854775808 ≤ z ∧ z ≤ 9223372036854775807) :
    Calls Tryd.prog 42 #[.int .i64 z, dv root, .int .i64 n, .int .i64 x, .string s, .slice ao L c] w fun e w' => e = .returned (.bool (ckB z root n x (strB s) ds)) ∧ Below w.heap.size w w' := by
  subst hl
  by_cases h1 : 0 ≤ x ∧ x < n
  · obtain ⟨n', rfl⟩ : ∃ m : Nat, n = (m : Int) := ⟨n.toNat, by omega⟩
    obtain ⟨x', rfl⟩ : ∃ m : Nat, x = (m : Int) := ⟨x.toNat, by omega⟩
    exact refCheck_some z root n' x' s ao c ds w hroot (by omega) (by omega) hd hc hP hs hz
  · have h := refCheck_wrong z root n x (.string s) (.slice ao ds.length c) w h1
    have e : ckB z root n x (strB s) ds = false := by
      unfold ckB
      rw [decide_eq_false (fun h => h1 ⟨h.1, h.2.1⟩), Bool.false_and]
    rw [e]; exact h
end Go.Proofs.YtaebpnednhkfhaaDoor
