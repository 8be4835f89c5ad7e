/-
  What marlstoneref05's Path, beside and Range answer: contracts over this translation.
-/
import Derived.Test.YtaebpnednhkfhaaDoorSameW
namespace Go.Proofs.YtaebpnednhkfhaaDoor
open Go.RowKit
def shiftS (s : Nat) (p : St) : St := ⟨p.a + s, p.b + s, p.r⟩
theorem dnF_shift (s i : Nat) : ∀ (f a b : Nat), dnF f (a + s) (b + s) (i + s) = (dnF f a b i).map (shiftS s)
  | 0, _, _ => rfl
  | f + 1, a, b => by
    rw [dnF, dnF, show b + s - (a + s) = b - a by omega]
    by_cases h1 : b - a ≤ 1
    · rw [if_pos h1, if_pos h1]; rfl
    · rw [if_neg h1, if_neg h1]
      have e1 : a + s + halfN (b - a) = (a + halfN (b - a)) + s := by omega
      by_cases h2 : i < a + halfN (b - a)
      · rw [if_pos h2, if_pos (by omega), List.map_cons, ← dnF_shift s i f a (a + halfN (b - a)), e1]; rfl
      · rw [if_neg h2, if_neg (by omega), List.map_cons, ← dnF_shift s i f (a + halfN (b - a)) b, e1]; rfl
theorem partL_take_in (ls : List LV) (k a b : Nat) (h : b ≤ k) : partL (ls.take k) a b = partL ls a b := by
  unfold partL; rw [List.drop_take, List.take_take, Nat.min_eq_left (by omega)]
theorem partL_drop_in (ls : List LV) (k a b : Nat) : partL (ls.drop k) a b = partL ls (a + k) (b + k) := by
  unfold partL; rw [List.drop_drop, show b + k - (a + k) = b - a by omega, Nat.add_comm k a]
/-- The path of a leaf of the left part, and of the right part. -/
theorem path_left (z : Int) (ls : List LV) (x : Nat) (h2 : 2 ≤ ls.length) (hn : ls.length ≤ 1000) (hx : x < halfN ls.length) :
    besideD z ls (spanS (upL ls.length x)) = besideD z (ls.take (halfN ls.length)) (spanS (upL (halfN ls.length) x)) ++ [rootD z (bytesL (ls.drop (halfN ls.length)))] := by
  obtain ⟨s1, s2, -⟩ := halfN_spec ls.length h2 (by omega)
  have e : upL ls.length x = upL (halfN ls.length) x ++ [⟨halfN ls.length, ls.length, false⟩] := by
    unfold upL
    rw [dnL_two x (by omega) (by omega), show ls.length - 0 = ls.length from rfl, Nat.zero_add, if_pos hx, List.reverse_cons]
  rw [e, spanS, List.map_append, besideD, List.map_append]
  congr 1
  · refine List.map_congr_left fun p hp => ?_
    obtain ⟨q, hq, rfl⟩ := List.mem_map.1 hp
    rw [partL_take_in ls _ _ _ (upL_in hx (by omega) q hq).2.2]
  · simp only [List.map_cons, List.map_nil]
    rw [show partL ls (halfN ls.length) ls.length = ls.drop (halfN ls.length) by unfold partL; rw [List.take_of_length_le (by rw [List.length_drop]; omega)]]
theorem path_right (z : Int) (ls : List LV) (x : Nat) (h2 : 2 ≤ ls.length) (hn : ls.length ≤ 1000) (hx : halfN ls.length ≤ x) :
    besideD z ls (spanS (upL ls.length x)) = besideD z (ls.drop (halfN ls.length)) (spanS (upL (ls.length - halfN ls.length) (x - halfN ls.length))) ++ [rootD z (bytesL (ls.take (halfN ls.length)))] := by
  obtain ⟨s1, s2, -⟩ := halfN_spec ls.length h2 (by omega)
  have e : upL ls.length x = (upL (ls.length - halfN ls.length) (x - halfN ls.length)).map (shiftS (halfN ls.length)) ++ [⟨0, halfN ls.length, true⟩] := by
    unfold upL
    rw [dnL_two x (by omega) (by omega), show ls.length - 0 = ls.length from rfl, Nat.zero_add, if_neg (by omega), List.reverse_cons, List.map_reverse]
    congr 2
    unfold dnL
    rw [← dnF_shift, Nat.zero_add, show ls.length - halfN ls.length + halfN ls.length = ls.length by omega, show x - halfN ls.length + halfN ls.length = x by omega]
  rw [e, spanS, List.map_append, besideD, List.map_append]
  congr 1
  rw [List.map_map, List.map_map, besideD, spanS, List.map_map]
  refine List.map_congr_left fun p _ => ?_
  show rootD z (bytesL (partL ls (p.a + halfN ls.length) (p.b + halfN ls.length))) = rootD z (bytesL (partL (ls.drop (halfN ls.length)) p.a p.b))
  rw [partL_drop_in]
theorem strs_take (ls : List LV) (k : Nat) : strs (ls.take k) = (strs ls).take k := by unfold strs; rw [List.map_take]
theorem strs_drop (ls : List LV) (k : Nat) : strs (ls.drop k) = (strs ls).drop k := by unfold strs; rw [List.map_drop]
set_option maxRecDepth 100000 in
set_option maxHeartbeats 4000000 in
theorem refPath_wrong (z : Int) (ao : Option Addr) (n c : Nat) (x : Int) (w : World) (hno : ¬ (0 ≤ x ∧ x < n)) :
    Calls Tryd.prog 34 #[.int .i64 z, .slice ao n c, .int .i64 x] w fun e w' => e = .returned (.tuple #[.slice none 0 0, .int .i64 1]) ∧ Below w.heap.size w w' := by
  by_cases h1 : x < 0
  · clear hno
    go_enter Tryd.func34, Tryd.ntmps34
    go_wp2
    go_ret2
    exact ⟨rfl, Below.refl _ _⟩
  · have h1d : decide (x < 0) = false := decide_eq_false h1
    have h3 : (n : Int) ≤ x := by omega
    clear hno
    go_enter Tryd.func34, Tryd.ntmps34
    go_wp2
    go_ret2
    exact ⟨rfl, Below.refl _ _⟩
set_option maxRecDepth 100000 in
set_option maxHeartbeats 4000000 in
theorem refPath_one (z : Int) (b off c : Nat) (w : World) :
    Calls Tryd.prog 34 #[.int .i64 z, .slice (some ⟨b, off, none⟩) 1 c, .int .i64 0] w fun e w' => ∃ v, e = .returned (.tuple #[v, .int .i64 0]) ∧ DgO w' w.heap.size v [] ∧ Below w.heap.size w w' := by
  go_enter Tryd.func34, Tryd.ntmps34
  go_wp2_with fail
  go_ret2
  exact ⟨_, rfl, ⟨World.ownsRow_made w #[] 0 (Nat.le_refl _) (by unfold maxLen; omega) rfl, fun d hd => by cases hd⟩, bel_alloc _ _⟩
set_option maxRecDepth 100000 in
set_option maxHeartbeats 4000000 in
theorem refPath_left (z : Int) (b off n c x : Nat) (w : World) (P : List (List UInt8)) (r : List UInt8) (h2 : 2 ≤ n) (hn : n ≤ 1000) (hnc : n ≤ c) (hr : r.length = 32) (hx : x < n) (hc : x < halfN n) (hPl : P.length ≤ 64)
    (HA : Hid (∀ W, Below w.heap.size w W → Calls Tryd.prog 34 #[.int .i64 z, .slice (some ⟨b, off, none⟩) (halfN n) c, .int .i64 (x : Int)] W fun e w' => ∃ v, e = .returned (.tuple #[v, .int .i64 0]) ∧ DgO w' W.heap.size v P ∧ Below W.heap.size W w'))
    (HB : Hid (∀ W, Below w.heap.size w W → Calls Tryd.prog 24 #[.int .i64 z, .slice (some ⟨b, off + halfN n, none⟩) (n - halfN n) (c - halfN n)] W fun e w' => e = .returned (dv r) ∧ Below W.heap.size W w')) :
    Calls Tryd.prog 34 #[.int .i64 z, .slice (some ⟨b, off, none⟩) n c, .int .i64 (x : Int)] w fun e w' => ∃ v, e = .returned (.tuple #[v, .int .i64 0]) ∧ DgO w' w.heap.size v (P ++ [r]) ∧ Below w.heap.size w w' := by
  have HHF : Hid (∀ W, Calls Tryd.prog 61 #[.int .i64 (n : Int)] W fun e w' => e = .returned (.int .i64 ((halfN n : Nat) : Int)) ∧ w' = W) := fun W => refHalf_any n W h2 (by omega)
  obtain ⟨s1, s2, -⟩ := halfN_spec n h2 (by omega)
  obtain ⟨k, HK⟩ : ∃ k, Hid (halfN n = k) := ⟨_, rfl⟩
  rw [HK.out] at HHF HA HB s1 s2 hc
  have HRL : Hid (r.length = 32) := hr
  have HPL : Hid (P.length ≤ 64) := hPl
  have y0 : ¬ (x : Int) < 0 := by omega
  have y0d : decide ((x : Int) < 0) = false := decide_eq_false y0
  have y1 : ¬ (n : Int) ≤ (x : Int) := by omega
  have y1d : decide ((n : Int) ≤ (x : Int)) = false := decide_eq_false y1
  have y1n : decide (n ≤ x) = false := decide_eq_false (by omega)
  have y2 : ((n : Int) == 1) = false := by simp; omega
  have y3 : (x : Int) < (k : Int) := by omega
  have hkn : k ≤ n := by omega
  have hkc : k ≤ c := by omega
  have hcne : c - k ≠ 0 := by omega
  have hck : ¬ c = k := by omega
  have hcz : (k : Int) ≤ (c : Int) := by omega
  have hnz : (n : Int) ≤ (c : Int) := by omega
  have hknz : (k : Int) ≤ (n : Int) := by omega
  
  clear hr h2 hn s1 s2 hc hx hPl
  go_enter Tryd.func34, Tryd.ntmps34
  have HB0 : Hid (Below w.heap.size w (w.alloc (.cells #[] 24))) := bel_alloc w _
  go_wp2_with fail
  obtain ⟨W0, HW0⟩ : ∃ W, Hid (w.alloc (.cells #[] 24) = W) := ⟨_, rfl⟩
  rw [HW0.out] at HB0 ⊢
  clear y0 y0d y1 y1d y1n y2 HW0
  refine (HHF.out _).mono ?_
  rintro e wx ⟨rfl, hwx⟩
  rw [hwx]
  clear hwx wx
  go_wp2_with fail
  refine (HA.out _ HB0.out).mono ?_
  rintro e w1 ⟨v1, rfl, hd1, hb1⟩
  have HD1 : Hid (DgO w1 W0.heap.size v1 P) := hd1
  have HB1 : Hid (Below w.heap.size w w1) := HB0.out.trans (hb1.mono HB0.out.size)
  have HSZ : Hid (w.heap.size ≤ W0.heap.size) := HB0.out.size
  clear hd1 hb1 y3
  go_wp2_with fail
  refine (HB.out _ HB1.out).mono ?_
  rintro e w2 ⟨rfl, hb2⟩
  have HB2 : Hid (Below w.heap.size w w2) := HB1.out.trans (hb2.mono HB1.out.size)
  have HD2 : Hid (DgO (w2.alloc (.cells (cellsOf r).toArray 24)) w.heap.size v1 P) := ((HD1.out.below hb2 (Nat.le_refl _)).below (bel_alloc w2 _) (Nat.le_refl _)).mono HSZ.out
  have HO2 : Hid (DgO (w2.alloc (.cells (cellsOf r).toArray 24)) w2.heap.size (.slice (some ⟨w2.heap.size, 0, none⟩) 1 1) [r]) := dgo_one w2 r HRL.out
  have HB3 : Hid (Below w.heap.size w (w2.alloc (.cells (cellsOf r).toArray 24))) := HB2.out.trans ((bel_alloc w2 _).mono HB2.out.size)
  clear hb2 hkn hkc hcne hck hcz hnz hknz hnc HA HB HHF
  go_wp2_with (first | (refine wpList_build_dig _ rfl (.tmp 47) rfl r rfl HRL.out ?_) | (at_builtin; refine wpList_append_dgo _ rfl (.tmp 42) (.tmp 48) rfl w.heap.size v1 P rfl HD2.out HB3.out.size w2.heap.size _ [r] rfl HO2.out (by have := HPL.out; simp; omega) ?_))
  intro v3 w3 hd3 hb3 _
  have HD3 : Hid (DgO w3 w.heap.size v3 (P ++ [r])) := hd3
  have HB4 : Hid (Below w.heap.size w w3) := HB3.out.trans hb3
  clear hd3 hb3
  go_wp2_with fail
  go_ret2
  exact ⟨_, rfl, HD3.out, HB4.out⟩
set_option maxRecDepth 100000 in
set_option maxHeartbeats 4000000 in
theorem refPath_right (z : Int) (b off n c x : Nat) (w : World) (P : List (List UInt8)) (r : List UInt8) (h2 : 2 ≤ n) (hn : n ≤ 1000) (hnc : n ≤ c) (hr : r.length = 32) (hx : x < n) (hc : halfN n ≤ x) (hPl : P.length ≤ 64)
    (HA : Hid (∀ W, Below w.heap.size w W → Calls Tryd.prog 34 #[.int .i64 z, .slice (some ⟨b, off + halfN n, none⟩) (n - halfN n) (c - halfN n), .int .i64 ((x - halfN n : Nat) : Int)] W fun e w' => ∃ v, e = .returned (.tuple #[v, .int .i64 0]) ∧ DgO w' W.heap.size v P ∧ Below W.heap.size W w'))
    (HB : Hid (∀ W, Below w.heap.size w W → Calls Tryd.prog 24 #[.int .i64 z, .slice (some ⟨b, off, none⟩) (halfN n) c] W fun e w' => e = .returned (dv r) ∧ Below W.heap.size W w')) :
    Calls Tryd.prog 34 #[.int .i64 z, .slice (some ⟨b, off, none⟩) n c, .int .i64 (x : Int)] w fun e w' => ∃ v, e = .returned (.tuple #[v, .int .i64 0]) ∧ DgO w' w.heap.size v (P ++ [r]) ∧ Below w.heap.size w w' := by
  have HHF : Hid (∀ W, Calls Tryd.prog 61 #[.int .i64 (n : Int)] W fun e w' => e = .returned (.int .i64 ((halfN n : Nat) : Int)) ∧ w' = W) := fun W => refHalf_any n W h2 (by omega)
  obtain ⟨s1, s2, -⟩ := halfN_spec n h2 (by omega)
  obtain ⟨k, HK⟩ : ∃ k, Hid (halfN n = k) := ⟨_, rfl⟩
  rw [HK.out] at HHF HA HB s1 s2 hc
  have HRL : Hid (r.length = 32) := hr
  have HPL : Hid (P.length ≤ 64) := hPl
  have y0 : ¬ (x : Int) < 0 := by omega
  have y0d : decide ((x : Int) < 0) = false := decide_eq_false y0
  have y1 : ¬ (n : Int) ≤ (x : Int) := by omega
  have y1d : decide ((n : Int) ≤ (x : Int)) = false := decide_eq_false y1
  have y1n : decide (n ≤ x) = false := decide_eq_false (by omega)
  have y2 : ((n : Int) == 1) = false := by simp; omega
  have y3 : ¬ (x : Int) < (k : Int) := by omega
  have hkn : k ≤ n := by omega
  have hkc : k ≤ c := by omega
  have hcne : c - k ≠ 0 := by omega
  have hck : ¬ c = k := by omega
  have hcz : (k : Int) ≤ (c : Int) := by omega
  have hnz : (n : Int) ≤ (c : Int) := by omega
  have hknz : (k : Int) ≤ (n : Int) := by omega
  have hws : wrap64 ((x : Int) - (k : Int)) = ((x - k : Nat) : Int) := wsub hc (by omega)
  clear hr h2 hn s1 s2 hc hx hPl
  go_enter Tryd.func34, Tryd.ntmps34
  have HB0 : Hid (Below w.heap.size w (w.alloc (.cells #[] 24))) := bel_alloc w _
  go_wp2_with fail
  obtain ⟨W0, HW0⟩ : ∃ W, Hid (w.alloc (.cells #[] 24) = W) := ⟨_, rfl⟩
  rw [HW0.out] at HB0 ⊢
  clear y0 y0d y1 y1d y1n y2 HW0
  refine (HHF.out _).mono ?_
  rintro e wx ⟨rfl, hwx⟩
  rw [hwx]
  clear hwx wx
  go_wp2_with fail
  refine (HA.out _ HB0.out).mono ?_
  rintro e w1 ⟨v1, rfl, hd1, hb1⟩
  have HD1 : Hid (DgO w1 W0.heap.size v1 P) := hd1
  have HB1 : Hid (Below w.heap.size w w1) := HB0.out.trans (hb1.mono HB0.out.size)
  have HSZ : Hid (w.heap.size ≤ W0.heap.size) := HB0.out.size
  clear hd1 hb1 y3
  go_wp2_with fail
  refine (HB.out _ HB1.out).mono ?_
  rintro e w2 ⟨rfl, hb2⟩
  have HB2 : Hid (Below w.heap.size w w2) := HB1.out.trans (hb2.mono HB1.out.size)
  have HD2 : Hid (DgO (w2.alloc (.cells (cellsOf r).toArray 24)) w.heap.size v1 P) := ((HD1.out.below hb2 (Nat.le_refl _)).below (bel_alloc w2 _) (Nat.le_refl _)).mono HSZ.out
  have HO2 : Hid (DgO (w2.alloc (.cells (cellsOf r).toArray 24)) w2.heap.size (.slice (some ⟨w2.heap.size, 0, none⟩) 1 1) [r]) := dgo_one w2 r HRL.out
  have HB3 : Hid (Below w.heap.size w (w2.alloc (.cells (cellsOf r).toArray 24))) := HB2.out.trans ((bel_alloc w2 _).mono HB2.out.size)
  clear hb2 hkn hkc hcne hck hcz hnz hknz hnc HA HB HHF hws
  go_wp2_with (first | (refine wpList_build_dig _ rfl (.tmp 66) rfl r rfl HRL.out ?_) | (at_builtin; refine wpList_append_dgo _ rfl (.tmp 61) (.tmp 67) rfl w.heap.size v1 P rfl HD2.out HB3.out.size w2.heap.size _ [r] rfl HO2.out (by have := HPL.out; simp; omega) ?_))
  intro v3 w3 hd3 hb3 _
  have HD3 : Hid (DgO w3 w.heap.size v3 (P ++ [r])) := hd3
  have HB4 : Hid (Below w.heap.size w w3) := HB3.out.trans hb3
  clear hd3 hb3
  go_wp2_with fail
  go_ret2
  exact ⟨_, rfl, HD3.out, HB4.out⟩
theorem refPath_some (z : Int) (hz : -9223372036854775808 ≤ z ∧ z ≤ 9223372036854775807) : ∀ (n : Nat) (ao : Option Addr) (c : Nat) (ls : List LV) (x : Nat) (w : World), StrV w ao n c (strs ls) → n ≤ 1000 → x < n → (∀ s ∈ strs ls, s.size ≤ 1000) →
    Calls Tryd.prog 34 #[.int .i64 z, .slice ao n c, .int .i64 (x : Int)] w fun e w' => ∃ v, e = .returned (.tuple #[v, .int .i64 0]) ∧ DgO w' w.heap.size v (besideD z ls (spanS (upL n x))) ∧ Below w.heap.size w w' := by
  intro n
  induction n using Nat.strongRecOn with
  | ind n ih =>
    intro ao c ls x w hS hn hx hs
    obtain ⟨b, off, rfl, -⟩ := hS.2.2.2 (by omega)
    have hl : ls.length = n := by have := hS.1; rwa [strs_len] at this
    by_cases h1 : n = 1
    · subst h1
      obtain rfl : x = 0 := by omega
      have h := refPath_one z b off c w
      rw [show besideD z ls (spanS (upL 1 0)) = [] from by rw [show upL 1 0 = [] from by unfold upL; rw [dnL_one 0 (by omega)]; rfl]; rfl]
      exact h
    · obtain ⟨s1, s2, -⟩ := halfN_spec n (by omega) (by omega)
      have hA : ∀ W, Below w.heap.size w W → StrV W (some ⟨b, off, none⟩) (halfN n) c (strs (ls.take (halfN n))) := fun W hW => by rw [strs_take]; exact (hS.below hW (Nat.le_refl _)).take _ (by omega)
      have hB : ∀ W, Below w.heap.size w W → StrV W (some ⟨b, off + halfN n, none⟩) (n - halfN n) (c - halfN n) (strs (ls.drop (halfN n))) := fun W hW => by rw [strs_drop]; exact (hS.below hW (Nat.le_refl _)).drop _ (by omega)
      have sA : ∀ s ∈ strs (ls.take (halfN n)), s.size ≤ 1000 := fun s h => hs s (by rw [strs_take] at h; exact List.mem_of_mem_take h)
      have sB : ∀ s ∈ strs (ls.drop (halfN n)), s.size ≤ 1000 := fun s h => hs s (by rw [strs_drop] at h; exact List.mem_of_mem_drop h)
      by_cases hxk : x < halfN n
      · have e := path_left z ls x (by omega) (by omega) (by rw [hl]; exact hxk)
        rw [hl] at e
        rw [e]
        refine refPath_left z b off n c x w _ _ (by omega) hn hS.2.1 (rootD_length _ _) hx hxk (by rw [besideD, List.length_map, spanS, List.length_map]; exact upL_len _ _) (fun W hW => ?_) (fun W hW => ?_)
        · exact ih (halfN n) (by omega) _ c _ x W (hA W hW) (by omega) hxk sA
        · have h := refRoot_any z hz (n - halfN n) _ (c - halfN n) _ W (hB W hW) (by omega) sB
          rw [strs_bytes] at h; exact h
      · have e := path_right z ls x (by omega) (by omega) (by rw [hl]; omega)
        rw [hl] at e
        rw [e]
        refine refPath_right z b off n c x w _ _ (by omega) hn hS.2.1 (rootD_length _ _) hx (by omega) (by rw [besideD, List.length_map, spanS, List.length_map]; exact upL_len _ _) (fun W hW => ?_) (fun W hW => ?_)
        · exact ih (n - halfN n) (by omega) _ _ _ (x - halfN n) W (hB W hW) (by omega) (by omega) sB
        · have h := refRoot_any z hz (halfN n) _ c _ W (hA W hW) (by omega) sA
          rw [strs_bytes] at h; exact h
theorem refPath_any (z : Int) (hz : -9223372036854775808 ≤ z ∧ z ≤ 9223372036854775807) (ao : Option Addr) (n c : Nat) (ls : List LV) (x : Int) (w : World) (hS : StrV w ao n c (strs ls)) (hn : n ≤ 1000) (hs : ∀ s ∈ strs ls, s.size ≤ 1000) :
    Calls Tryd.prog 34 #[.int .i64 z, .slice ao n c, .int .i64 x] w fun e w' => ∃ v, e = .returned (.tuple #[v, .int .i64 (pathE n x)]) ∧ DgO w' w.heap.size v (pathD z ls x) ∧ Below w.heap.size w w' := by
  have hl : ls.length = n := by have := hS.1; rwa [strs_len] at this
  unfold pathE pathD
  by_cases h1 : 0 ≤ x ∧ x < n
  · obtain ⟨x', rfl⟩ : ∃ m : Nat, x = (m : Int) := ⟨x.toNat, by omega⟩
    have h := refPath_some z hz n ao c ls x' w hS hn (by omega) hs
    rw [if_pos h1, if_pos (by rw [hl]; exact h1), Int.toNat_natCast, hl]; exact h
  · rw [if_neg h1, if_neg (by rw [hl]; exact h1)]
    refine (refPath_wrong z ao n c x w h1).mono ?_
    rintro e w' ⟨rfl, hb⟩
    exact ⟨_, rfl, ⟨World.ownsRow_nil _ _ _ _, fun d hd => by cases hd⟩, hb⟩
end Go.Proofs.YtaebpnednhkfhaaDoor
