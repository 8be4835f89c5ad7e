/-
  What marlstoneref05's beside and Range answer: contracts over this translation.
-/
import Derived.Test.YtaebpnednhkfhaaDoorRefPth
namespace Go.Proofs.YtaebpnednhkfhaaDoor
open Go.RowKit
theorem wsubi {x : Int} {k : Nat} (h1 : -2000 ≤ x) (h2 : x ≤ 2000) (hk : k ≤ 1000) : wrap64 (x - (k : Int)) = x - (k : Int) := by unfold wrap64; omega
set_option maxRecDepth 100000 in
set_option maxHeartbeats 4000000 in
theorem refBes_apart (z : Int) (ao : Option Addr) (n c : Nat) (x y : Int) (w : World) (r : List UInt8) (hr : r.length = 32) (hap : y ≤ 0 ∨ (n : Int) ≤ x)
    (HB : Hid (∀ W, Below w.heap.size w W → Calls Tryd.prog 24 #[.int .i64 z, .slice ao n c] W fun e w' => e = .returned (dv r) ∧ Below W.heap.size W w')) :
    Calls Tryd.prog 67 #[.int .i64 z, .slice ao n c, .int .i64 x, .int .i64 y] w fun e w' => ∃ v, e = .returned v ∧ DgO w' w.heap.size v [r] ∧ Below w.heap.size w w' := by
  have HRL : Hid (r.length = 32) := hr
  have HIR : Hid ((Tryd.prog.info? 24).map (·.size) = some (cellsOf r).toArray.size) := by show _ = _; rw [size24, dig_size hr]
  clear hr
  by_cases h1 : y ≤ 0
  case pos =>
    clear hap
    go_enter Tryd.func67, Tryd.ntmps67
    go_wp2_with fail
    refine (HB.out _ (Below.refl _ _)).mono ?_
    rintro e w1 ⟨rfl, hb1⟩
    have HB1 : Hid (Below w.heap.size w w1) := hb1
    clear hb1 HB
    unfold dv
    have HN_w2 : Hid ((w1.alloc (.cells #[Value.int IntKind.u8 0, Value.int IntKind.u8 0, Value.int IntKind.u8 0, Value.int IntKind.u8 0, Value.int IntKind.u8 0, Value.int IntKind.u8 0, Value.int IntKind.u8 0, Value.int IntKind.u8 0, Value.int IntKind.u8 0, Value.int IntKind.u8 0, Value.int IntKind.u8 0, Value.int IntKind.u8 0, Value.int IntKind.u8 0, Value.int IntKind.u8 0, Value.int IntKind.u8 0, Value.int IntKind.u8 0, Value.int IntKind.u8 0, Value.int IntKind.u8 0, Value.int IntKind.u8 0, Value.int IntKind.u8 0, Value.int IntKind.u8 0, Value.int IntKind.u8 0, Value.int IntKind.u8 0, Value.int IntKind.u8 0, Value.int IntKind.u8 0, Value.int IntKind.u8 0, Value.int IntKind.u8 0, Value.int IntKind.u8 0, Value.int IntKind.u8 0, Value.int IntKind.u8 0, Value.int IntKind.u8 0, Value.int IntKind.u8 0] 24)).heap[w1.heap.size]? = some (.cells #[Value.int IntKind.u8 0, Value.int IntKind.u8 0, Value.int IntKind.u8 0, Value.int IntKind.u8 0, Value.int IntKind.u8 0, Value.int IntKind.u8 0, Value.int IntKind.u8 0, Value.int IntKind.u8 0, Value.int IntKind.u8 0, Value.int IntKind.u8 0, Value.int IntKind.u8 0, Value.int IntKind.u8 0, Value.int IntKind.u8 0, Value.int IntKind.u8 0, Value.int IntKind.u8 0, Value.int IntKind.u8 0, Value.int IntKind.u8 0, Value.int IntKind.u8 0, Value.int IntKind.u8 0, Value.int IntKind.u8 0, Value.int IntKind.u8 0, Value.int IntKind.u8 0, Value.int IntKind.u8 0, Value.int IntKind.u8 0, Value.int IntKind.u8 0, Value.int IntKind.u8 0, Value.int IntKind.u8 0, Value.int IntKind.u8 0, Value.int IntKind.u8 0, Value.int IntKind.u8 0, Value.int IntKind.u8 0, Value.int IntKind.u8 0] 24 (0, 0))) := heap_alloc_new w1 _
    go_upto_region 3 with (refine wpList_store_row rfl 24 (.tmp 9) (.tmp 23) rfl w1.heap.size (cellsOf r).toArray rfl rfl 24 _ HN_w2.out (by rw [size24, dig_size HRL.out]) (by rw [dig_size HRL.out]; rfl) (cells_all _) ?_)
    have HR_w2 := setRow_heap _ _ _ (cellsOf r).toArray _ _ HN_w2.out
    have HB_w2 : Below w1.heap.size w1 ((w1.alloc (.cells #[Value.int IntKind.u8 0, Value.int IntKind.u8 0, Value.int IntKind.u8 0, Value.int IntKind.u8 0, Value.int IntKind.u8 0, Value.int IntKind.u8 0, Value.int IntKind.u8 0, Value.int IntKind.u8 0, Value.int IntKind.u8 0, Value.int IntKind.u8 0, Value.int IntKind.u8 0, Value.int IntKind.u8 0, Value.int IntKind.u8 0, Value.int IntKind.u8 0, Value.int IntKind.u8 0, Value.int IntKind.u8 0, Value.int IntKind.u8 0, Value.int IntKind.u8 0, Value.int IntKind.u8 0, Value.int IntKind.u8 0, Value.int IntKind.u8 0, Value.int IntKind.u8 0, Value.int IntKind.u8 0, Value.int IntKind.u8 0, Value.int IntKind.u8 0, Value.int IntKind.u8 0, Value.int IntKind.u8 0, Value.int IntKind.u8 0, Value.int IntKind.u8 0, Value.int IntKind.u8 0, Value.int IntKind.u8 0, Value.int IntKind.u8 0] 24)).setRow w1.heap.size (cellsOf r).toArray) := below_row (bel_alloc w1 _) (Nat.le_refl _) _
    obtain ⟨w2, HW_w2⟩ : ∃ W, Hid ((w1.alloc (.cells #[Value.int IntKind.u8 0, Value.int IntKind.u8 0, Value.int IntKind.u8 0, Value.int IntKind.u8 0, Value.int IntKind.u8 0, Value.int IntKind.u8 0, Value.int IntKind.u8 0, Value.int IntKind.u8 0, Value.int IntKind.u8 0, Value.int IntKind.u8 0, Value.int IntKind.u8 0, Value.int IntKind.u8 0, Value.int IntKind.u8 0, Value.int IntKind.u8 0, Value.int IntKind.u8 0, Value.int IntKind.u8 0, Value.int IntKind.u8 0, Value.int IntKind.u8 0, Value.int IntKind.u8 0, Value.int IntKind.u8 0, Value.int IntKind.u8 0, Value.int IntKind.u8 0, Value.int IntKind.u8 0, Value.int IntKind.u8 0, Value.int IntKind.u8 0, Value.int IntKind.u8 0, Value.int IntKind.u8 0, Value.int IntKind.u8 0, Value.int IntKind.u8 0, Value.int IntKind.u8 0, Value.int IntKind.u8 0, Value.int IntKind.u8 0] 24)).setRow w1.heap.size (cellsOf r).toArray = W) := ⟨_, rfl⟩
    rw [HW_w2.out] at HR_w2 HB_w2 ⊢
    have HR_w2 : Hid _ := HR_w2
    have HB2 : Hid (Below w.heap.size w w2) := HB1.out.trans (HB_w2.mono HB1.out.size)
    clear HW_w2 HN_w2 HB_w2
    go_wp2_with (refine wpList_load_row rfl 24 (.tmp 9) rfl w1.heap.size rfl 24 (cellsOf r).toArray (0, 0) _ HR_w2.out Tryd.underlying24 rfl HIR.out ?_; refine wpList_build_dig _ rfl (.tmp 24) rfl r rfl HRL.out ?_)
    go_ret
    exact ⟨_, rfl, (dgo_one w2 r HRL.out).mono HB2.out.size, HB2.out.trans ((bel_alloc w2 _).mono HB2.out.size)⟩
  case neg =>
    have h1d : decide (y ≤ 0) = false := decide_eq_false h1
    have h2 : (n : Int) ≤ x := by omega
    clear hap
    go_enter Tryd.func67, Tryd.ntmps67
    go_wp2_with fail
    refine (HB.out _ (Below.refl _ _)).mono ?_
    rintro e w1 ⟨rfl, hb1⟩
    have HB1 : Hid (Below w.heap.size w w1) := hb1
    clear hb1 HB
    unfold dv
    have HN_w2 : Hid ((w1.alloc (.cells #[Value.int IntKind.u8 0, Value.int IntKind.u8 0, Value.int IntKind.u8 0, Value.int IntKind.u8 0, Value.int IntKind.u8 0, Value.int IntKind.u8 0, Value.int IntKind.u8 0, Value.int IntKind.u8 0, Value.int IntKind.u8 0, Value.int IntKind.u8 0, Value.int IntKind.u8 0, Value.int IntKind.u8 0, Value.int IntKind.u8 0, Value.int IntKind.u8 0, Value.int IntKind.u8 0, Value.int IntKind.u8 0, Value.int IntKind.u8 0, Value.int IntKind.u8 0, Value.int IntKind.u8 0, Value.int IntKind.u8 0, Value.int IntKind.u8 0, Value.int IntKind.u8 0, Value.int IntKind.u8 0, Value.int IntKind.u8 0, Value.int IntKind.u8 0, Value.int IntKind.u8 0, Value.int IntKind.u8 0, Value.int IntKind.u8 0, Value.int IntKind.u8 0, Value.int IntKind.u8 0, Value.int IntKind.u8 0, Value.int IntKind.u8 0] 24)).heap[w1.heap.size]? = some (.cells #[Value.int IntKind.u8 0, Value.int IntKind.u8 0, Value.int IntKind.u8 0, Value.int IntKind.u8 0, Value.int IntKind.u8 0, Value.int IntKind.u8 0, Value.int IntKind.u8 0, Value.int IntKind.u8 0, Value.int IntKind.u8 0, Value.int IntKind.u8 0, Value.int IntKind.u8 0, Value.int IntKind.u8 0, Value.int IntKind.u8 0, Value.int IntKind.u8 0, Value.int IntKind.u8 0, Value.int IntKind.u8 0, Value.int IntKind.u8 0, Value.int IntKind.u8 0, Value.int IntKind.u8 0, Value.int IntKind.u8 0, Value.int IntKind.u8 0, Value.int IntKind.u8 0, Value.int IntKind.u8 0, Value.int IntKind.u8 0, Value.int IntKind.u8 0, Value.int IntKind.u8 0, Value.int IntKind.u8 0, Value.int IntKind.u8 0, Value.int IntKind.u8 0, Value.int IntKind.u8 0, Value.int IntKind.u8 0, Value.int IntKind.u8 0] 24 (0, 0))) := heap_alloc_new w1 _
    go_upto_region 3 with (refine wpList_store_row rfl 24 (.tmp 9) (.tmp 23) rfl w1.heap.size (cellsOf r).toArray rfl rfl 24 _ HN_w2.out (by rw [size24, dig_size HRL.out]) (by rw [dig_size HRL.out]; rfl) (cells_all _) ?_)
    have HR_w2 := setRow_heap _ _ _ (cellsOf r).toArray _ _ HN_w2.out
    have HB_w2 : Below w1.heap.size w1 ((w1.alloc (.cells #[Value.int IntKind.u8 0, Value.int IntKind.u8 0, Value.int IntKind.u8 0, Value.int IntKind.u8 0, Value.int IntKind.u8 0, Value.int IntKind.u8 0, Value.int IntKind.u8 0, Value.int IntKind.u8 0, Value.int IntKind.u8 0, Value.int IntKind.u8 0, Value.int IntKind.u8 0, Value.int IntKind.u8 0, Value.int IntKind.u8 0, Value.int IntKind.u8 0, Value.int IntKind.u8 0, Value.int IntKind.u8 0, Value.int IntKind.u8 0, Value.int IntKind.u8 0, Value.int IntKind.u8 0, Value.int IntKind.u8 0, Value.int IntKind.u8 0, Value.int IntKind.u8 0, Value.int IntKind.u8 0, Value.int IntKind.u8 0, Value.int IntKind.u8 0, Value.int IntKind.u8 0, Value.int IntKind.u8 0, Value.int IntKind.u8 0, Value.int IntKind.u8 0, Value.int IntKind.u8 0, Value.int IntKind.u8 0, Value.int IntKind.u8 0] 24)).setRow w1.heap.size (cellsOf r).toArray) := below_row (bel_alloc w1 _) (Nat.le_refl _) _
    obtain ⟨w2, HW_w2⟩ : ∃ W, Hid ((w1.alloc (.cells #[Value.int IntKind.u8 0, Value.int IntKind.u8 0, Value.int IntKind.u8 0, Value.int IntKind.u8 0, Value.int IntKind.u8 0, Value.int IntKind.u8 0, Value.int IntKind.u8 0, Value.int IntKind.u8 0, Value.int IntKind.u8 0, Value.int IntKind.u8 0, Value.int IntKind.u8 0, Value.int IntKind.u8 0, Value.int IntKind.u8 0, Value.int IntKind.u8 0, Value.int IntKind.u8 0, Value.int IntKind.u8 0, Value.int IntKind.u8 0, Value.int IntKind.u8 0, Value.int IntKind.u8 0, Value.int IntKind.u8 0, Value.int IntKind.u8 0, Value.int IntKind.u8 0, Value.int IntKind.u8 0, Value.int IntKind.u8 0, Value.int IntKind.u8 0, Value.int IntKind.u8 0, Value.int IntKind.u8 0, Value.int IntKind.u8 0, Value.int IntKind.u8 0, Value.int IntKind.u8 0, Value.int IntKind.u8 0, Value.int IntKind.u8 0] 24)).setRow w1.heap.size (cellsOf r).toArray = W) := ⟨_, rfl⟩
    rw [HW_w2.out] at HR_w2 HB_w2 ⊢
    have HR_w2 : Hid _ := HR_w2
    have HB2 : Hid (Below w.heap.size w w2) := HB1.out.trans (HB_w2.mono HB1.out.size)
    clear HW_w2 HN_w2 HB_w2
    go_wp2_with (refine wpList_load_row rfl 24 (.tmp 9) rfl w1.heap.size rfl 24 (cellsOf r).toArray (0, 0) _ HR_w2.out Tryd.underlying24 rfl HIR.out ?_; refine wpList_build_dig _ rfl (.tmp 24) rfl r rfl HRL.out ?_)
    go_ret
    exact ⟨_, rfl, (dgo_one w2 r HRL.out).mono HB2.out.size, HB2.out.trans ((bel_alloc w2 _).mono HB2.out.size)⟩
set_option maxRecDepth 100000 in
set_option maxHeartbeats 4000000 in
theorem refBes_one (z : Int) (ao : Option Addr) (c : Nat) (x y : Int) (w : World) (h1 : ¬ y ≤ 0) (h2 : ¬ (1 : Int) ≤ x) :
    Calls Tryd.prog 67 #[.int .i64 z, .slice ao 1 c, .int .i64 x, .int .i64 y] w fun e w' => ∃ v, e = .returned v ∧ DgO w' w.heap.size v [] ∧ Below w.heap.size w w' := by
  have h1d : decide (y ≤ 0) = false := decide_eq_false h1
  have h2d : decide ((1 : Int) ≤ x) = false := decide_eq_false h2
  go_enter Tryd.func67, Tryd.ntmps67
  go_wp2_with fail
  go_ret
  exact ⟨_, rfl, ⟨World.ownsRow_nil _ _ _ _, fun d hd => by cases hd⟩, Below.refl _ _⟩
set_option maxRecDepth 100000 in
set_option maxHeartbeats 4000000 in
theorem refBes_many (z : Int) (b off n c : Nat) (x y : Int) (w : World) (P Q : List (List UInt8)) (h2 : 2 ≤ n) (hn : n ≤ 1000) (hnc : n ≤ c) (hx : ¬ (n : Int) ≤ x) (hy : ¬ y ≤ 0) (hxb : -2000 ≤ x ∧ x ≤ 2000) (hyb : -2000 ≤ y ∧ y ≤ 2000) (hPl : P.length + Q.length ≤ 1000)
    (HA : Hid (∀ W, Below w.heap.size w W → Calls Tryd.prog 67 #[.int .i64 z, .slice (some ⟨b, off, none⟩) (halfN n) c, .int .i64 x, .int .i64 y] W fun e w' => ∃ v, e = .returned v ∧ DgO w' W.heap.size v P ∧ Below W.heap.size W w'))
    (HB : Hid (∀ W, Below w.heap.size w W → Calls Tryd.prog 67 #[.int .i64 z, .slice (some ⟨b, off + halfN n, none⟩) (n - halfN n) (c - halfN n), .int .i64 (x - (halfN n : Nat)), .int .i64 (y - (halfN n : Nat))] W fun e w' => ∃ v, e = .returned v ∧ DgO w' W.heap.size v Q ∧ Below W.heap.size W w')) :
    Calls Tryd.prog 67 #[.int .i64 z, .slice (some ⟨b, off, none⟩) n c, .int .i64 x, .int .i64 y] w fun e w' => ∃ v, e = .returned v ∧ DgO w' w.heap.size v (P ++ Q) ∧ Below w.heap.size w w' := by
  have HHF : Hid (∀ W, Calls Tryd.prog 61 #[.int .i64 (n : Int)] W fun e w' => e = .returned (.int .i64 ((halfN n : Nat) : Int)) ∧ w' = W) := fun W => refHalf_any n W h2 (by omega)
  obtain ⟨s1, s2, -⟩ := halfN_spec n h2 (by omega)
  obtain ⟨k, HK⟩ : ∃ k, Hid (halfN n = k) := ⟨_, rfl⟩
  rw [HK.out] at HHF HA HB s1 s2
  have HPL : Hid (P.length + Q.length ≤ 1000) := hPl
  have hxd : decide ((n : Int) ≤ x) = false := decide_eq_false hx
  have hyd : decide (y ≤ 0) = false := decide_eq_false hy
  have y2 : ((n : Int) == 1) = false := by simp; omega
  have hkn : k ≤ n := by omega
  have hkc : k ≤ c := by omega
  have hcne : c - k ≠ 0 := by omega
  have hck : ¬ c = k := by omega
  have hcz : (k : Int) ≤ (c : Int) := by omega
  have hnz : (n : Int) ≤ (c : Int) := by omega
  have hknz : (k : Int) ≤ (n : Int) := by omega
  have hk1 : k ≤ 1000 := by omega
  obtain ⟨x2, HX2⟩ : ∃ q, Hid (x - (k : Int) = q) := ⟨_, rfl⟩
  obtain ⟨y2', HY2⟩ : ∃ q, Hid (y - (k : Int) = q) := ⟨_, rfl⟩
  rw [HX2.out] at HB
  rw [HY2.out] at HB
  have hwx : wrap64 (x - (k : Int)) = x2 := (wsubi hxb.1 hxb.2 hk1).trans HX2.out
  have hwy : wrap64 (y - (k : Int)) = y2' := (wsubi hyb.1 hyb.2 hk1).trans HY2.out
  clear h2 hn s1 s2 hPl hxb hyb hk1
  go_enter Tryd.func67, Tryd.ntmps67
  go_wp2_with fail
  clear hxd hyd y2 hx hy
  refine (HHF.out _).mono ?_
  rintro e wx ⟨rfl, hwx'⟩
  rw [hwx']
  clear hwx' wx
  go_wp2_with fail
  refine (HA.out _ (Below.refl _ _)).mono ?_
  rintro e w1 ⟨v1, rfl, hd1, hb1⟩
  have HD1 : Hid (DgO w1 w.heap.size v1 P) := hd1
  have HB1 : Hid (Below w.heap.size w w1) := hb1
  clear hd1 hb1
  go_wp2_with fail
  refine (HB.out _ HB1.out).mono ?_
  rintro e w2 ⟨v2, rfl, hd2, hb2⟩
  have HB2 : Hid (Below w.heap.size w w2) := HB1.out.trans (hb2.mono HB1.out.size)
  have HD2 : Hid (DgO w2 w.heap.size v1 P) := HD1.out.below hb2 (Nat.le_refl _)
  have HO2 : Hid (DgO w2 w1.heap.size v2 Q) := hd2
  clear hb2 hd2 hkn hkc hcne hck hcz hnz hknz hnc HA HB HHF hwx hwy
  go_wp2_with (at_builtin; refine wpList_append_dgo _ rfl (.tmp 50) (.tmp 51) rfl w.heap.size v1 P rfl HD2.out HB2.out.size w1.heap.size v2 Q rfl HO2.out HPL.out ?_)
  intro v3 w3 hd3 hb3 _
  have HD3 : Hid (DgO w3 w.heap.size v3 (P ++ Q)) := hd3
  have HB4 : Hid (Below w.heap.size w w3) := HB2.out.trans hb3
  clear hd3 hb3
  go_wp2_with fail
  go_ret
  exact ⟨_, rfl, HD3.out, HB4.out⟩
theorem outL_split {a b c d : Nat} (hcd : c < d) (hab : a < b) (hb : b ≤ 1000) (h1 : ¬ (b ≤ c ∨ d ≤ a)) (h2 : 2 ≤ b - a) : outL a b c d = outL a (a + halfN (b - a)) c d ++ outL (a + halfN (b - a)) b c d := by
  obtain ⟨s1, s2, -⟩ := halfN_spec (b - a) h2 (by omega)
  by_cases hw : c ≤ a ∧ b ≤ d
  · rw [outL_within h1 hw, outL_within (a := a) (b := a + halfN (b - a)) (by omega) (by omega), outL_within (a := a + halfN (b - a)) (b := b) (by omega) (by omega)]; rfl
  · exact (outL_two hcd hab (by omega) h1 hw).2
theorem refBes_any (z : Int) (hz : -9223372036854775808 ≤ z ∧ z ≤ 9223372036854775807) (L : List LV) (c d : Nat) (hcd : c < d) (hd : d ≤ L.length) (hL : L.length ≤ 1000) (hs : ∀ s ∈ strs L, s.size ≤ 1000) : ∀ (n a b : Nat) (ao : Option Addr) (cp : Nat) (w : World), b - a = n → a < b → b ≤ L.length → StrV w ao n cp (strs (partL L a b)) →
    Calls Tryd.prog 67 #[.int .i64 z, .slice ao n cp, .int .i64 ((c : Int) - (a : Int)), .int .i64 ((d : Int) - (a : Int))] w fun e w' => ∃ v, e = .returned v ∧ DgO w' w.heap.size v (besideD z L (outL a b c d)) ∧ Below w.heap.size w w' := by
  intro n
  have hsz : ∀ a b, ∀ s ∈ strs (partL L a b), s.size ≤ 1000 := fun a b s h => by
    obtain ⟨p, hp, rfl⟩ := List.mem_map.1 h
    exact hs _ (List.mem_map.2 ⟨p, List.mem_of_mem_drop (List.mem_of_mem_take hp), rfl⟩)
  induction n using Nat.strongRecOn with
  | ind n ih =>
    intro a b ao cp w hn hab hb hS
    by_cases h1 : b ≤ c ∨ d ≤ a
    · rw [outL_apart h1]
      refine refBes_apart z ao n cp _ _ w _ (rootD_length z (bytesL (partL L a b))) (by omega) (fun W hW => ?_)
      have h := refRoot_any z hz n ao cp _ W (hS.below hW (Nat.le_refl _)) (by omega) (hsz a b)
      rw [strs_bytes] at h; exact h
    · by_cases h2 : n = 1
      · subst h2
        rw [outL_within h1 (by omega)]
        exact refBes_one z ao cp _ _ w (by omega) (by omega)
      · obtain ⟨s1, s2, -⟩ := halfN_spec n (by omega) (by omega)
        obtain ⟨bb, off, rfl, -⟩ := hS.2.2.2 (by omega)
        have hlen : (outL a b c d).length ≤ 127 := outL_len hcd hab (by omega)
        have e := outL_split hcd hab (by omega) h1 (by omega)
        rw [hn] at e
        have hl2 : (outL a (a + halfN n) c d).length + (outL (a + halfN n) b c d).length ≤ 127 := by rw [← List.length_append, ← e]; exact hlen
        rw [e, show besideD z L (outL a (a + halfN n) c d ++ outL (a + halfN n) b c d) = besideD z L (outL a (a + halfN n) c d) ++ besideD z L (outL (a + halfN n) b c d) from by simp [besideD]]
        refine refBes_many z bb off n cp _ _ w _ _ (by omega) (by omega) hS.2.1 (by omega) (by omega) (by omega) (by omega) (by rw [besideD, besideD, List.length_map, List.length_map]; omega) (fun W hW => ?_) (fun W hW => ?_)
        · have h := (hS.below hW (Nat.le_refl _)).take (halfN n) (by omega)
          rw [← strs_take, partL_take L a b (halfN n) (by omega)] at h
          exact ih (halfN n) (by omega) a (a + halfN n) _ _ W (by omega) (by omega) (by omega) h
        · have h := (hS.below hW (Nat.le_refl _)).drop (halfN n) (by omega)
          rw [← strs_drop, partL_drop L a b (halfN n)] at h
          have h3 := ih (n - halfN n) (by omega) (a + halfN n) b _ _ W (by omega) (by omega) hb h
          rw [show (c : Int) - ((a + halfN n : Nat) : Int) = (c : Int) - (a : Int) - ((halfN n : Nat) : Int) by omega, show (d : Int) - ((a + halfN n : Nat) : Int) = (d : Int) - (a : Int) - ((halfN n : Nat) : Int) by omega] at h3
          exact h3
set_option maxRecDepth 100000 in
set_option maxHeartbeats 4000000 in
theorem refRange_wrong (z : Int) (ao : Option Addr) (n c : Nat) (x y : Int) (w : World) (hno : ¬ (0 ≤ x ∧ x < y ∧ y ≤ n)) :
    Calls Tryd.prog 36 #[.int .i64 z, .slice ao n c, .int .i64 x, .int .i64 y] w fun e w' => e = .returned (.tuple #[.slice none 0 0, .int .i64 1]) ∧ Below w.heap.size w w' := by
  by_cases h1 : x < 0
  · clear hno
    go_enter Tryd.func36, Tryd.ntmps36
    go_wp2
    go_ret2
    exact ⟨rfl, Below.refl _ _⟩
  by_cases h2 : y ≤ x
  · have h1d : decide (x < 0) = false := decide_eq_false h1
    clear hno
    go_enter Tryd.func36, Tryd.ntmps36
    go_wp2
    go_ret2
    exact ⟨rfl, Below.refl _ _⟩
  · have h1d : decide (x < 0) = false := decide_eq_false h1
    have h2d : decide (y ≤ x) = false := decide_eq_false h2
    have h3 : (n : Int) < y := by omega
    clear hno
    go_enter Tryd.func36, Tryd.ntmps36
    go_wp2
    go_ret2
    exact ⟨rfl, Below.refl _ _⟩
set_option maxRecDepth 100000 in
set_option maxHeartbeats 4000000 in
theorem refRange_some (z : Int) (ao : Option Addr) (n c : Nat) (x y : Int) (P : List (List UInt8)) (w : World) (h1 : 0 ≤ x) (h2 : x < y) (h3 : y ≤ n)
    (HA : Hid (Calls Tryd.prog 67 #[.int .i64 z, .slice ao n c, .int .i64 x, .int .i64 y] w fun e w' => ∃ v, e = .returned v ∧ DgO w' w.heap.size v P ∧ Below w.heap.size w w')) :
    Calls Tryd.prog 36 #[.int .i64 z, .slice ao n c, .int .i64 x, .int .i64 y] w fun e w' => ∃ v, e = .returned (.tuple #[v, .int .i64 0]) ∧ DgO w' w.heap.size v P ∧ Below w.heap.size w w' := by
  have y1 : ¬ x < 0 := by omega
  have y1d : decide (x < 0) = false := decide_eq_false y1
  have y2 : ¬ y ≤ x := by omega
  have y2d : decide (y ≤ x) = false := decide_eq_false y2
  have y3 : ¬ (n : Int) < y := by omega
  have y3d : decide ((n : Int) < y) = false := decide_eq_false y3
  clear h1 h2 h3
  go_enter Tryd.func36, Tryd.ntmps36
  go_wp2_with fail
  refine Calls.mono HA.out ?_
  rintro e w1 ⟨v, rfl, hd, hb⟩
  have HD : Hid (DgO w1 w.heap.size v P) := hd
  have HB : Hid (Below w.heap.size w w1) := hb
  clear hd hb y1 y1d y2 y2d y3 y3d
  go_wp2_with fail
  go_ret2
  exact ⟨_, rfl, HD.out, HB.out⟩
theorem refRange_any (z : Int) (hz : -9223372036854775808 ≤ z ∧ z ≤ 9223372036854775807) (ao : Option Addr) (n c : Nat) (ls : List LV) (x y : Int) (w : World) (hS : StrV w ao n c (strs ls)) (hn : n ≤ 1000) (hs : ∀ s ∈ strs ls, s.size ≤ 1000) :
    Calls Tryd.prog 36 #[.int .i64 z, .slice ao n c, .int .i64 x, .int .i64 y] w fun e w' => ∃ v, e = .returned (.tuple #[v, .int .i64 (rangeE n x y)]) ∧ DgO w' w.heap.size v (rangeD z ls x y) ∧ Below w.heap.size w w' := by
  have hl : ls.length = n := by have := hS.1; rwa [strs_len] at this
  unfold rangeE rangeD
  by_cases h1 : 0 ≤ x ∧ x < y ∧ y ≤ n
  · obtain ⟨x', rfl⟩ : ∃ m : Nat, x = (m : Int) := ⟨x.toNat, by omega⟩
    obtain ⟨y', rfl⟩ : ∃ m : Nat, y = (m : Int) := ⟨y.toNat, by omega⟩
    rw [if_pos h1, if_pos (by rw [hl]; exact h1), Int.toNat_natCast, Int.toNat_natCast, hl]
    refine refRange_some z ao n c _ _ _ w h1.1 h1.2.1 h1.2.2 ?_
    have h := refBes_any z hz ls x' y' (by omega) (by omega) (by omega) hs n 0 n ao c w (by omega) (by omega) (by omega) (by rw [← hl, partL_all, hl]; exact hS)
    rw [show ((0 : Nat) : Int) = 0 from rfl, Int.sub_zero, Int.sub_zero] at h
    exact h
  · rw [if_neg h1, if_neg (by rw [hl]; exact h1)]
    refine (refRange_wrong z ao n c x y w h1).mono ?_
    rintro e w' ⟨rfl, hb⟩
    exact ⟨_, rfl, ⟨World.ownsRow_nil _ _ _ _, fun d hd => by cases hd⟩, hb⟩
end Go.Proofs.YtaebpnednhkfhaaDoor
