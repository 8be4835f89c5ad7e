/-
  What marlstoneref05.Above answers: a contract over this translation.
-/
import Derived.Test.YtaebpnednhkfhaaDoorRefPth
namespace Go.Proofs.YtaebpnednhkfhaaDoor
open Go.RowKit
theorem results_dig_bool {fn : Func} {p q : Tmp} (h : fn.results = #[.cell p 24, .tmp q]) (tmps : Array Value) (w : World) (g : Nat) (t : TypeId) (cs : Array Value) (fr : Nat × Nat)
    (hp : tmps.getD p undef = .pointer (some ⟨g, 0, none⟩)) (h1 : w.heap[g]? = some (.cells cs t fr)) (s1 : cs.size = 32) :
    (results fn tmps).run Tryd.prog w = .ok (.tuple #[.agg cs, tmps.getD q undef]) w := by
  have hp' : tmps[p]?.getD undef = .pointer (some ⟨g, 0, none⟩) := by simpa using hp
  simp [results, h, hp', asAddr, run_loadVar_row w g t 24 cs fr _ h1 Tryd.underlying24 rfl (by rw [size24, s1])]
/-- What comes out above a leaf. -/
def AbV (z : Int) (s : ByteArray) (n x : Nat) (ds : List (List UInt8)) (d : List UInt8) (ok : Bool) : Prop := d.length = 32 ∧ ok = decide (ds.length = (upL n x).length) ∧ (ok = true → d = climbD z (leafD z (strB s)) (upL n x) ds)
theorem climb_shift (z : Int) (u : List UInt8) (k : Nat) : ∀ (l : List St) (ds : List (List UInt8)) , climbD z u (l.map (shiftS k)) ds = climbD z u l ds := by
  intro l
  induction l generalizing u with
  | nil => intro ds; rfl
  | cons p l ih =>
    intro ds
    cases ds with
    | nil => simp [climbD]
    | cons d ds => exact ih (joinS z u (p, d)) ds
theorem up_left {n x : Nat} (h2 : 2 ≤ n) (hn : n ≤ 9223372036854775807) (hx : x < halfN n) : upL n x = upL (halfN n) x ++ [⟨halfN n, n, false⟩] := by
  unfold upL
  rw [dnL_two x (by omega) hn, show n - 0 = n from rfl, Nat.zero_add, if_pos hx, List.reverse_cons]
theorem up_right {n x : Nat} (h2 : 2 ≤ n) (hn : n ≤ 9223372036854775807) (hx : halfN n ≤ x) : upL n x = (upL (n - halfN n) (x - halfN n)).map (shiftS (halfN n)) ++ [⟨0, halfN n, true⟩] := by
  obtain ⟨s1, s2, -⟩ := halfN_spec n h2 hn
  unfold upL
  rw [dnL_two x (by omega) hn, show n - 0 = n from rfl, Nat.zero_add, if_neg (by omega), List.reverse_cons, List.map_reverse]
  congr 2
  unfold dnL
  rw [← dnF_shift, Nat.zero_add, show n - halfN n + halfN n = n by omega, show x - halfN n + halfN n = x by omega]
theorem ab_left {z : Int} {s : ByteArray} {n x : Nat} {es : List (List UInt8)} {d last : List UInt8} {ok : Bool} (h2 : 2 ≤ n) (hn : n ≤ 9223372036854775807) (hx : x < halfN n) (h : AbV z s (halfN n) x es d ok) : AbV z s n x (es ++ [last]) (nodeD z d last) ok := by
  refine ⟨nodeD_length _ _ _, ?_, fun hok => ?_⟩
  · rw [h.2.1, up_left h2 hn hx]; simp
  · have hl : es.length = (upL (halfN n) x).length := by have := h.2.1; rw [hok] at this; exact of_decide_eq_true this.symm
    rw [up_left h2 hn hx, climb_app _ _ _ _ _ _ hl.symm, ← h.2.2 hok]
    simp [climbD, joinS]
theorem ab_right {z : Int} {s : ByteArray} {n x : Nat} {es : List (List UInt8)} {d last : List UInt8} {ok : Bool} (h2 : 2 ≤ n) (hn : n ≤ 9223372036854775807) (hx : halfN n ≤ x) (h : AbV z s (n - halfN n) (x - halfN n) es d ok) : AbV z s n x (es ++ [last]) (nodeD z last d) ok := by
  refine ⟨nodeD_length _ _ _, ?_, fun hok => ?_⟩
  · rw [h.2.1, up_right h2 hn hx]; simp
  · have hl : es.length = (upL (n - halfN n) (x - halfN n)).length := by have := h.2.1; rw [hok] at this; exact of_decide_eq_true this.symm
    rw [up_right h2 hn hx, climb_app _ _ _ _ _ _ (by rw [List.length_map]; exact hl.symm), climb_shift, ← h.2.2 hok]
    simp [climbD, joinS]
theorem PathV.take {w : World} {ao : Option Addr} {ds : List (List UInt8)} (h : PathV w ao ds) (k : Nat) : PathV w ao (ds.take k) :=
  ⟨fun d hd => h.1 d (List.mem_of_mem_take hd), fun hp => by
    obtain ⟨b, off, h1, h2⟩ := h.2 (by rw [List.length_take] at hp; omega)
    exact ⟨b, off, h1, fun j d hj => h2 j d (by rw [List.getElem?_take] at hj; split at hj; exact hj; cases hj)⟩⟩
set_option maxRecDepth 100000 in
set_option maxHeartbeats 4000000 in
theorem refAbove_one (z : Int) (s : ByteArray) (ao : Option Addr) (c : Nat) (ds : List (List UInt8)) (w : World) (hs : s.size ≤ 1000) (hz : -9223372036854775808 ≤ z ∧ z ≤ 9223372036854775807) :
    Calls Tryd.prog 68 #[.int .i64 z, .int .i64 1, .int .i64 0, .string s, .slice ao ds.length c] w fun e w' => ∃ d ok, e = .returned (.tuple #[dv d, .bool ok]) ∧ AbV z s 1 0 ds d ok ∧ Below w.heap.size w w' := by
  have HLF : Hid (∀ W, Calls Tryd.prog 30 #[.int .i64 z, .string s] W fun e w' => e = .returned (dv (leafD z (strB s))) ∧ Below W.heap.size W w') := fun W => refLeaf_any z s W hs hz
  have HU : Hid (upL 1 0 = []) := by show _ = _; unfold upL; rw [dnL_one 0 (by omega)]; rfl
  obtain ⟨d, HD⟩ : ∃ d, Hid (leafD z (strB s) = d) := ⟨_, rfl⟩
  have HDL : Hid (d.length = 32) := by show _ = _; rw [← HD.out]; exact leafD_length _ _
  rw [HD.out] at HLF
  obtain ⟨L, HL⟩ : ∃ L : Nat, Hid (ds.length = L) := ⟨_, rfl⟩
  rw [HL.out]
  obtain ⟨ok, HOK⟩ : ∃ b, Hid (((L : Int) == 0) = b) := ⟨_, rfl⟩
  have hok := HOK.out
  have HAB : Hid (AbV z s 1 0 ds d ok) := by
    refine ⟨HDL.out, ?_, fun _ => ?_⟩
    · rw [← HOK.out, HU.out, HL.out]
      by_cases h : L = 0
      · subst h; rfl
      · rw [decide_eq_false (by simpa using h)]
        simp; omega
    · rw [HU.out, ← HD.out]; simp [climbD]
  clear hs hz
  go_enter Tryd.func68, Tryd.ntmps68
  have HN0 : Hid ((w.alloc (.cells #[Value.int IntKind.u8 0, Value.int IntKind.u8 0, Value.int IntKind.u8 0, Value.int IntKind.u8 0, Value.int IntKind.u8 0, Value.int IntKind.u8 0, Value.int IntKind.u8 0, Value.int IntKind.u8 0, Value.int IntKind.u8 0, Value.int IntKind.u8 0, Value.int IntKind.u8 0, Value.int IntKind.u8 0, Value.int IntKind.u8 0, Value.int IntKind.u8 0, Value.int IntKind.u8 0, Value.int IntKind.u8 0, Value.int IntKind.u8 0, Value.int IntKind.u8 0, Value.int IntKind.u8 0, Value.int IntKind.u8 0, Value.int IntKind.u8 0, Value.int IntKind.u8 0, Value.int IntKind.u8 0, Value.int IntKind.u8 0, Value.int IntKind.u8 0, Value.int IntKind.u8 0, Value.int IntKind.u8 0, Value.int IntKind.u8 0, Value.int IntKind.u8 0, Value.int IntKind.u8 0, Value.int IntKind.u8 0, Value.int IntKind.u8 0] 24)).heap[w.heap.size]? = some (.cells #[Value.int IntKind.u8 0, Value.int IntKind.u8 0, Value.int IntKind.u8 0, Value.int IntKind.u8 0, Value.int IntKind.u8 0, Value.int IntKind.u8 0, Value.int IntKind.u8 0, Value.int IntKind.u8 0, Value.int IntKind.u8 0, Value.int IntKind.u8 0, Value.int IntKind.u8 0, Value.int IntKind.u8 0, Value.int IntKind.u8 0, Value.int IntKind.u8 0, Value.int IntKind.u8 0, Value.int IntKind.u8 0, Value.int IntKind.u8 0, Value.int IntKind.u8 0, Value.int IntKind.u8 0, Value.int IntKind.u8 0, Value.int IntKind.u8 0, Value.int IntKind.u8 0, Value.int IntKind.u8 0, Value.int IntKind.u8 0, Value.int IntKind.u8 0, Value.int IntKind.u8 0, Value.int IntKind.u8 0, Value.int IntKind.u8 0, Value.int IntKind.u8 0, Value.int IntKind.u8 0, Value.int IntKind.u8 0, Value.int IntKind.u8 0] 24 (0, 0))) := heap_alloc_new w _
  have HB0 : Hid (Below w.heap.size w (w.alloc (.cells #[Value.int IntKind.u8 0, Value.int IntKind.u8 0, Value.int IntKind.u8 0, Value.int IntKind.u8 0, Value.int IntKind.u8 0, Value.int IntKind.u8 0, Value.int IntKind.u8 0, Value.int IntKind.u8 0, Value.int IntKind.u8 0, Value.int IntKind.u8 0, Value.int IntKind.u8 0, Value.int IntKind.u8 0, Value.int IntKind.u8 0, Value.int IntKind.u8 0, Value.int IntKind.u8 0, Value.int IntKind.u8 0, Value.int IntKind.u8 0, Value.int IntKind.u8 0, Value.int IntKind.u8 0, Value.int IntKind.u8 0, Value.int IntKind.u8 0, Value.int IntKind.u8 0, Value.int IntKind.u8 0, Value.int IntKind.u8 0, Value.int IntKind.u8 0, Value.int IntKind.u8 0, Value.int IntKind.u8 0, Value.int IntKind.u8 0, Value.int IntKind.u8 0, Value.int IntKind.u8 0, Value.int IntKind.u8 0, Value.int IntKind.u8 0] 24))) := bel_alloc w _
  go_wp2_with fail
  obtain ⟨W0, HW0⟩ : ∃ W, Hid (w.alloc (.cells #[Value.int IntKind.u8 0, Value.int IntKind.u8 0, Value.int IntKind.u8 0, Value.int IntKind.u8 0, Value.int IntKind.u8 0, Value.int IntKind.u8 0, Value.int IntKind.u8 0, Value.int IntKind.u8 0, Value.int IntKind.u8 0, Value.int IntKind.u8 0, Value.int IntKind.u8 0, Value.int IntKind.u8 0, Value.int IntKind.u8 0, Value.int IntKind.u8 0, Value.int IntKind.u8 0, Value.int IntKind.u8 0, Value.int IntKind.u8 0, Value.int IntKind.u8 0, Value.int IntKind.u8 0, Value.int IntKind.u8 0, Value.int IntKind.u8 0, Value.int IntKind.u8 0, Value.int IntKind.u8 0, Value.int IntKind.u8 0, Value.int IntKind.u8 0, Value.int IntKind.u8 0, Value.int IntKind.u8 0, Value.int IntKind.u8 0, Value.int IntKind.u8 0, Value.int IntKind.u8 0, Value.int IntKind.u8 0, Value.int IntKind.u8 0] 24) = W) := ⟨_, rfl⟩
  rw [HW0.out] at HN0 HB0 ⊢
  refine (HLF.out _).mono ?_
  rintro e w2 ⟨rfl, hb2⟩
  have HN2 : Hid (w2.heap[w.heap.size]? = some (.cells #[Value.int IntKind.u8 0, Value.int IntKind.u8 0, Value.int IntKind.u8 0, Value.int IntKind.u8 0, Value.int IntKind.u8 0, Value.int IntKind.u8 0, Value.int IntKind.u8 0, Value.int IntKind.u8 0, Value.int IntKind.u8 0, Value.int IntKind.u8 0, Value.int IntKind.u8 0, Value.int IntKind.u8 0, Value.int IntKind.u8 0, Value.int IntKind.u8 0, Value.int IntKind.u8 0, Value.int IntKind.u8 0, Value.int IntKind.u8 0, Value.int IntKind.u8 0, Value.int IntKind.u8 0, Value.int IntKind.u8 0, Value.int IntKind.u8 0, Value.int IntKind.u8 0, Value.int IntKind.u8 0, Value.int IntKind.u8 0, Value.int IntKind.u8 0, Value.int IntKind.u8 0, Value.int IntKind.u8 0, Value.int IntKind.u8 0, Value.int IntKind.u8 0, Value.int IntKind.u8 0, Value.int IntKind.u8 0, Value.int IntKind.u8 0] 24 (0, 0))) := (hb2.block _ (Array.getElem?_eq_some_iff.1 HN0.out).1).trans HN0.out
  have HB2 : Hid (Below w.heap.size w w2) := HB0.out.trans (hb2.mono HB0.out.size)
  clear hb2
  unfold dv
  go_wp2_with (refine wpList_store_row rfl 24 (.tmp 10) (.tmp 22) rfl w.heap.size (cellsOf d).toArray rfl rfl 24 _ HN2.out (by rw [size24, dig_size HDL.out]) (by rw [dig_size HDL.out]; rfl) (cells_all _) ?_)
  refine bodyPost_ret (results_dig_bool rfl _ _ w.heap.size 24 (cellsOf d).toArray (0, 0) rfl (setRow_heap _ _ _ _ _ _ HN2.out) (by rw [dig_size HDL.out])) rfl ?_
  exact ⟨d, ok, rfl, HAB.out, below_row HB2.out (Nat.le_refl _) _⟩
set_option maxRecDepth 100000 in
set_option maxHeartbeats 4000000 in
theorem refAbove_zero (z : Int) (s : ByteArray) (n x : Nat) (ao : Option Addr) (c : Nat) (w : World) (h2 : 2 ≤ n) (hn : n ≤ 9223372036854775807) :
    Calls Tryd.prog 68 #[.int .i64 z, .int .i64 (n : Int), .int .i64 (x : Int), .string s, .slice ao 0 c] w fun e w' => ∃ d ok, e = .returned (.tuple #[dv d, .bool ok]) ∧ AbV z s n x [] d ok ∧ Below w.heap.size w w' := by
  have HAB : Hid (AbV z s n x [] (List.replicate 32 0) false) := by
    refine ⟨by simp, ?_, fun h => by cases h⟩
    rw [decide_eq_false]
    by_cases hx : x < halfN n
    · rw [up_left h2 hn hx]; simp
    · rw [up_right h2 hn (by omega)]; simp
  have y1 : ((n : Int) == 1) = false := by simp; omega
  clear h2 hn
  go_enter Tryd.func68, Tryd.ntmps68
  have HN0 : Hid ((w.alloc (.cells #[Value.int IntKind.u8 0, Value.int IntKind.u8 0, Value.int IntKind.u8 0, Value.int IntKind.u8 0, Value.int IntKind.u8 0, Value.int IntKind.u8 0, Value.int IntKind.u8 0, Value.int IntKind.u8 0, Value.int IntKind.u8 0, Value.int IntKind.u8 0, Value.int IntKind.u8 0, Value.int IntKind.u8 0, Value.int IntKind.u8 0, Value.int IntKind.u8 0, Value.int IntKind.u8 0, Value.int IntKind.u8 0, Value.int IntKind.u8 0, Value.int IntKind.u8 0, Value.int IntKind.u8 0, Value.int IntKind.u8 0, Value.int IntKind.u8 0, Value.int IntKind.u8 0, Value.int IntKind.u8 0, Value.int IntKind.u8 0, Value.int IntKind.u8 0, Value.int IntKind.u8 0, Value.int IntKind.u8 0, Value.int IntKind.u8 0, Value.int IntKind.u8 0, Value.int IntKind.u8 0, Value.int IntKind.u8 0, Value.int IntKind.u8 0] 24)).heap[w.heap.size]? = some (.cells #[Value.int IntKind.u8 0, Value.int IntKind.u8 0, Value.int IntKind.u8 0, Value.int IntKind.u8 0, Value.int IntKind.u8 0, Value.int IntKind.u8 0, Value.int IntKind.u8 0, Value.int IntKind.u8 0, Value.int IntKind.u8 0, Value.int IntKind.u8 0, Value.int IntKind.u8 0, Value.int IntKind.u8 0, Value.int IntKind.u8 0, Value.int IntKind.u8 0, Value.int IntKind.u8 0, Value.int IntKind.u8 0, Value.int IntKind.u8 0, Value.int IntKind.u8 0, Value.int IntKind.u8 0, Value.int IntKind.u8 0, Value.int IntKind.u8 0, Value.int IntKind.u8 0, Value.int IntKind.u8 0, Value.int IntKind.u8 0, Value.int IntKind.u8 0, Value.int IntKind.u8 0, Value.int IntKind.u8 0, Value.int IntKind.u8 0, Value.int IntKind.u8 0, Value.int IntKind.u8 0, Value.int IntKind.u8 0, Value.int IntKind.u8 0] 24 (0, 0))) := heap_alloc_new w _
  go_wp2_with (refine wpList_store_row rfl 24 (.tmp 10) (.tmp 29) rfl w.heap.size (cellsOf (List.replicate 32 0)).toArray rfl rfl 24 _ HN0.out (by rw [size24]; rfl) rfl (cells_all _) ?_)
  refine bodyPost_ret (results_dig_bool rfl _ _ w.heap.size 24 (cellsOf (List.replicate 32 0)).toArray (0, 0) rfl (setRow_heap _ _ _ _ _ _ HN0.out) rfl) rfl ?_
  exact ⟨List.replicate 32 0, false, rfl, HAB.out, below_row (bel_alloc w _) (Nat.le_refl _) _⟩
set_option maxRecDepth 100000 in
set_option maxHeartbeats 4000000 in
theorem refAbove_left (z : Int) (s : ByteArray) (n x pb po m c : Nat) (es : List (List UInt8)) (last : List UInt8) (w : World) (h2 : 2 ≤ n) (hn : n ≤ 9223372036854775807) (_hx : x < n) (hc : x < halfN n) (hm : m ≤ 1000) (hmc : m + 1 ≤ c) (hlast : last.length = 32) (hz : -9223372036854775808 ≤ z ∧ z ≤ 9223372036854775807)
    (hR : w.rangeAt pb (po + m * 32) (cellsOf last))
    (HA : Hid (∀ W, Below w.heap.size w W → Calls Tryd.prog 68 #[.int .i64 z, .int .i64 ((halfN n : Nat) : Int), .int .i64 (x : Int), .string s, .slice (some ⟨pb, po, none⟩) m c] W fun e w' => ∃ d ok, e = .returned (.tuple #[dv d, .bool ok]) ∧ AbV z s (halfN n) x es d ok ∧ Below W.heap.size W w')) :
    Calls Tryd.prog 68 #[.int .i64 z, .int .i64 (n : Int), .int .i64 (x : Int), .string s, .slice (some ⟨pb, po, none⟩) (m + 1) c] w fun e w' => ∃ d ok, e = .returned (.tuple #[dv d, .bool ok]) ∧ AbV z s n x (es ++ [last]) d ok ∧ Below w.heap.size w w' := by
  have HHF : Hid (∀ W, Calls Tryd.prog 61 #[.int .i64 (n : Int)] W fun e w' => e = .returned (.int .i64 ((halfN n : Nat) : Int)) ∧ w' = W) := fun W => refHalf_any n W h2 hn
  have HABO : Hid (∀ d ok, AbV z s (halfN n) x es d ok → AbV z s n x (es ++ [last]) (nodeD z d last) ok) := fun d ok h => ab_left h2 hn hc h
  have HNDG : Hid (∀ (d : List UInt8) W, d.length = 32 → Calls Tryd.prog 27 #[.int .i64 z, .agg (cellsOf d).toArray, .agg (cellsOf last).toArray] W fun e w' => e = .returned (dv (nodeD z d last)) ∧ Below W.heap.size W w') := fun d W hd => refNode_any z d last W hd hlast hz
  obtain ⟨s1, s2, -⟩ := halfN_spec n h2 hn
  obtain ⟨k, HK⟩ : ∃ k, Hid (halfN n = k) := ⟨_, rfl⟩
  rw [HK.out] at HHF HA HABO s1 s2 hc
  have HLL : Hid (last.length = 32) := hlast
  have HIL : Hid ((Tryd.prog.info? 24).map (·.size) = some (cellsOf last).length) := by show _ = _; rw [size24, cellsOf_length, hlast]
  have HIL2 : Hid ((Tryd.prog.info? 24).map (·.size) = some (cellsOf last).toArray.size) := by show _ = _; rw [size24, dig_size hlast]
  have HRG : Hid (∀ W, Below w.heap.size w W → W.rangeAt pb (po + m * 32) (cellsOf last)) := fun W hW => range_bel hR hW (Nat.le_refl _)
  have y1 : ((n : Int) == 1) = false := by simp; omega
  have y3 : (x : Int) < (k : Int) := by omega
  have hmz : (m : Int) ≤ (c : Int) := by omega
  
  
  clear hlast hz hR h2 hn s1 s2 hc _hx
  go_enter Tryd.func68, Tryd.ntmps68
  have HN0 : Hid ((w.alloc (.cells #[Value.int IntKind.u8 0, Value.int IntKind.u8 0, Value.int IntKind.u8 0, Value.int IntKind.u8 0, Value.int IntKind.u8 0, Value.int IntKind.u8 0, Value.int IntKind.u8 0, Value.int IntKind.u8 0, Value.int IntKind.u8 0, Value.int IntKind.u8 0, Value.int IntKind.u8 0, Value.int IntKind.u8 0, Value.int IntKind.u8 0, Value.int IntKind.u8 0, Value.int IntKind.u8 0, Value.int IntKind.u8 0, Value.int IntKind.u8 0, Value.int IntKind.u8 0, Value.int IntKind.u8 0, Value.int IntKind.u8 0, Value.int IntKind.u8 0, Value.int IntKind.u8 0, Value.int IntKind.u8 0, Value.int IntKind.u8 0, Value.int IntKind.u8 0, Value.int IntKind.u8 0, Value.int IntKind.u8 0, Value.int IntKind.u8 0, Value.int IntKind.u8 0, Value.int IntKind.u8 0, Value.int IntKind.u8 0, Value.int IntKind.u8 0] 24)).heap[w.heap.size]? = some (.cells #[Value.int IntKind.u8 0, Value.int IntKind.u8 0, Value.int IntKind.u8 0, Value.int IntKind.u8 0, Value.int IntKind.u8 0, Value.int IntKind.u8 0, Value.int IntKind.u8 0, Value.int IntKind.u8 0, Value.int IntKind.u8 0, Value.int IntKind.u8 0, Value.int IntKind.u8 0, Value.int IntKind.u8 0, Value.int IntKind.u8 0, Value.int IntKind.u8 0, Value.int IntKind.u8 0, Value.int IntKind.u8 0, Value.int IntKind.u8 0, Value.int IntKind.u8 0, Value.int IntKind.u8 0, Value.int IntKind.u8 0, Value.int IntKind.u8 0, Value.int IntKind.u8 0, Value.int IntKind.u8 0, Value.int IntKind.u8 0, Value.int IntKind.u8 0, Value.int IntKind.u8 0, Value.int IntKind.u8 0, Value.int IntKind.u8 0, Value.int IntKind.u8 0, Value.int IntKind.u8 0, Value.int IntKind.u8 0, Value.int IntKind.u8 0] 24 (0, 0))) := heap_alloc_new w _
  have HB0 : Hid (Below w.heap.size w (w.alloc (.cells #[Value.int IntKind.u8 0, Value.int IntKind.u8 0, Value.int IntKind.u8 0, Value.int IntKind.u8 0, Value.int IntKind.u8 0, Value.int IntKind.u8 0, Value.int IntKind.u8 0, Value.int IntKind.u8 0, Value.int IntKind.u8 0, Value.int IntKind.u8 0, Value.int IntKind.u8 0, Value.int IntKind.u8 0, Value.int IntKind.u8 0, Value.int IntKind.u8 0, Value.int IntKind.u8 0, Value.int IntKind.u8 0, Value.int IntKind.u8 0, Value.int IntKind.u8 0, Value.int IntKind.u8 0, Value.int IntKind.u8 0, Value.int IntKind.u8 0, Value.int IntKind.u8 0, Value.int IntKind.u8 0, Value.int IntKind.u8 0, Value.int IntKind.u8 0, Value.int IntKind.u8 0, Value.int IntKind.u8 0, Value.int IntKind.u8 0, Value.int IntKind.u8 0, Value.int IntKind.u8 0, Value.int IntKind.u8 0, Value.int IntKind.u8 0] 24))) := bel_alloc w _
  obtain ⟨W0, HW0⟩ : ∃ W, Hid (w.alloc (.cells #[Value.int IntKind.u8 0, Value.int IntKind.u8 0, Value.int IntKind.u8 0, Value.int IntKind.u8 0, Value.int IntKind.u8 0, Value.int IntKind.u8 0, Value.int IntKind.u8 0, Value.int IntKind.u8 0, Value.int IntKind.u8 0, Value.int IntKind.u8 0, Value.int IntKind.u8 0, Value.int IntKind.u8 0, Value.int IntKind.u8 0, Value.int IntKind.u8 0, Value.int IntKind.u8 0, Value.int IntKind.u8 0, Value.int IntKind.u8 0, Value.int IntKind.u8 0, Value.int IntKind.u8 0, Value.int IntKind.u8 0, Value.int IntKind.u8 0, Value.int IntKind.u8 0, Value.int IntKind.u8 0, Value.int IntKind.u8 0, Value.int IntKind.u8 0, Value.int IntKind.u8 0, Value.int IntKind.u8 0, Value.int IntKind.u8 0, Value.int IntKind.u8 0, Value.int IntKind.u8 0, Value.int IntKind.u8 0, Value.int IntKind.u8 0] 24) = W) := ⟨_, rfl⟩
  have HRG0 : Hid (W0.rangeAt pb (po + m * 32) (cellsOf last)) := HRG.out _ (by rw [← HW0.out]; exact HB0.out)
  go_upto_region 5 with fail
  rw [HW0.out] at HN0 HB0 ⊢
  clear HW0 y1
  have HN1 : Hid ((W0.alloc (.cells #[Value.int IntKind.u8 0, Value.int IntKind.u8 0, Value.int IntKind.u8 0, Value.int IntKind.u8 0, Value.int IntKind.u8 0, Value.int IntKind.u8 0, Value.int IntKind.u8 0, Value.int IntKind.u8 0, Value.int IntKind.u8 0, Value.int IntKind.u8 0, Value.int IntKind.u8 0, Value.int IntKind.u8 0, Value.int IntKind.u8 0, Value.int IntKind.u8 0, Value.int IntKind.u8 0, Value.int IntKind.u8 0, Value.int IntKind.u8 0, Value.int IntKind.u8 0, Value.int IntKind.u8 0, Value.int IntKind.u8 0, Value.int IntKind.u8 0, Value.int IntKind.u8 0, Value.int IntKind.u8 0, Value.int IntKind.u8 0, Value.int IntKind.u8 0, Value.int IntKind.u8 0, Value.int IntKind.u8 0, Value.int IntKind.u8 0, Value.int IntKind.u8 0, Value.int IntKind.u8 0, Value.int IntKind.u8 0, Value.int IntKind.u8 0] 24)).heap[W0.heap.size]? = some (.cells #[Value.int IntKind.u8 0, Value.int IntKind.u8 0, Value.int IntKind.u8 0, Value.int IntKind.u8 0, Value.int IntKind.u8 0, Value.int IntKind.u8 0, Value.int IntKind.u8 0, Value.int IntKind.u8 0, Value.int IntKind.u8 0, Value.int IntKind.u8 0, Value.int IntKind.u8 0, Value.int IntKind.u8 0, Value.int IntKind.u8 0, Value.int IntKind.u8 0, Value.int IntKind.u8 0, Value.int IntKind.u8 0, Value.int IntKind.u8 0, Value.int IntKind.u8 0, Value.int IntKind.u8 0, Value.int IntKind.u8 0, Value.int IntKind.u8 0, Value.int IntKind.u8 0, Value.int IntKind.u8 0, Value.int IntKind.u8 0, Value.int IntKind.u8 0, Value.int IntKind.u8 0, Value.int IntKind.u8 0, Value.int IntKind.u8 0, Value.int IntKind.u8 0, Value.int IntKind.u8 0, Value.int IntKind.u8 0, Value.int IntKind.u8 0] 24 (0, 0))) := heap_alloc_new W0 _
  go_upto_region 6 with (first | (refine wpList_load_mid rfl 24 (.tmp 34) rfl pb (po + m * 32) rfl (cellsOf last) _ HRG0.out Tryd.underlying24 rfl HIL.out ?_) | (refine wpList_store_row rfl 24 (.tmp 12) (.tmp 35) rfl W0.heap.size (cellsOf last).toArray rfl rfl 24 _ HN1.out (by rw [size24, dig_size HLL.out]) (by rw [dig_size HLL.out]; rfl) (cells_all _) ?_))
  have HR1 := setRow_heap _ _ _ (cellsOf last).toArray _ _ HN1.out
  have HB1 : Below W0.heap.size W0 ((W0.alloc (.cells #[Value.int IntKind.u8 0, Value.int IntKind.u8 0, Value.int IntKind.u8 0, Value.int IntKind.u8 0, Value.int IntKind.u8 0, Value.int IntKind.u8 0, Value.int IntKind.u8 0, Value.int IntKind.u8 0, Value.int IntKind.u8 0, Value.int IntKind.u8 0, Value.int IntKind.u8 0, Value.int IntKind.u8 0, Value.int IntKind.u8 0, Value.int IntKind.u8 0, Value.int IntKind.u8 0, Value.int IntKind.u8 0, Value.int IntKind.u8 0, Value.int IntKind.u8 0, Value.int IntKind.u8 0, Value.int IntKind.u8 0, Value.int IntKind.u8 0, Value.int IntKind.u8 0, Value.int IntKind.u8 0, Value.int IntKind.u8 0, Value.int IntKind.u8 0, Value.int IntKind.u8 0, Value.int IntKind.u8 0, Value.int IntKind.u8 0, Value.int IntKind.u8 0, Value.int IntKind.u8 0, Value.int IntKind.u8 0, Value.int IntKind.u8 0] 24)).setRow W0.heap.size (cellsOf last).toArray) := below_row (bel_alloc W0 _) (Nat.le_refl _) _
  obtain ⟨w1, HW1'⟩ : ∃ W, Hid ((W0.alloc (.cells #[Value.int IntKind.u8 0, Value.int IntKind.u8 0, Value.int IntKind.u8 0, Value.int IntKind.u8 0, Value.int IntKind.u8 0, Value.int IntKind.u8 0, Value.int IntKind.u8 0, Value.int IntKind.u8 0, Value.int IntKind.u8 0, Value.int IntKind.u8 0, Value.int IntKind.u8 0, Value.int IntKind.u8 0, Value.int IntKind.u8 0, Value.int IntKind.u8 0, Value.int IntKind.u8 0, Value.int IntKind.u8 0, Value.int IntKind.u8 0, Value.int IntKind.u8 0, Value.int IntKind.u8 0, Value.int IntKind.u8 0, Value.int IntKind.u8 0, Value.int IntKind.u8 0, Value.int IntKind.u8 0, Value.int IntKind.u8 0, Value.int IntKind.u8 0, Value.int IntKind.u8 0, Value.int IntKind.u8 0, Value.int IntKind.u8 0, Value.int IntKind.u8 0, Value.int IntKind.u8 0, Value.int IntKind.u8 0, Value.int IntKind.u8 0] 24)).setRow W0.heap.size (cellsOf last).toArray = W) := ⟨_, rfl⟩
  rw [HW1'.out] at HR1 HB1 ⊢
  have HR1 : Hid _ := HR1
  have HB1 : Hid (Below W0.heap.size W0 w1) := HB1
  have HBW1 : Hid (Below w.heap.size w w1) := HB0.out.trans (HB1.out.mono HB0.out.size)
  clear HW1' HN1
  go_wp2_with fail
  refine (HHF.out _).mono ?_
  rintro e wx ⟨rfl, hwx⟩
  rw [hwx]
  clear hwx wx
  
  
  go_wp2_with fail
  refine (HA.out _ HBW1.out).mono ?_
  rintro e w2 ⟨d0, ok, rfl, hab, hb2⟩
  have HAB : Hid (AbV z s n x (es ++ [last]) (nodeD z d0 last) ok) := HABO.out d0 ok hab
  have HDL : Hid (d0.length = 32) := hab.1
  have HID : Hid ((Tryd.prog.info? 24).map (·.size) = some (cellsOf d0).toArray.size) := by show _ = _; rw [size24, dig_size hab.1]
  have HB2 : Hid (Below w1.heap.size w1 w2) := hb2
  have HND : Hid (∀ W, Calls Tryd.prog 27 #[.int .i64 z, .agg (cellsOf d0).toArray, .agg (cellsOf last).toArray] W fun e w' => e = .returned (dv (nodeD z d0 last)) ∧ Below W.heap.size W w') := fun W => HNDG.out d0 W hab.1
  clear hab hb2 y3 hmz hm hmc HA HHF HABO HNDG
  obtain ⟨nd, HNDD⟩ : ∃ d, Hid (nodeD z d0 last = d) := ⟨_, rfl⟩
  rw [HNDD.out] at HAB HND
  have HNL : Hid (nd.length = 32) := by show _ = _; rw [← HNDD.out]; exact nodeD_length _ _ _
  unfold dv
  have HN2 : Hid ((w2.alloc (.cells #[Value.int IntKind.u8 0, Value.int IntKind.u8 0, Value.int IntKind.u8 0, Value.int IntKind.u8 0, Value.int IntKind.u8 0, Value.int IntKind.u8 0, Value.int IntKind.u8 0, Value.int IntKind.u8 0, Value.int IntKind.u8 0, Value.int IntKind.u8 0, Value.int IntKind.u8 0, Value.int IntKind.u8 0, Value.int IntKind.u8 0, Value.int IntKind.u8 0, Value.int IntKind.u8 0, Value.int IntKind.u8 0, Value.int IntKind.u8 0, Value.int IntKind.u8 0, Value.int IntKind.u8 0, Value.int IntKind.u8 0, Value.int IntKind.u8 0, Value.int IntKind.u8 0, Value.int IntKind.u8 0, Value.int IntKind.u8 0, Value.int IntKind.u8 0, Value.int IntKind.u8 0, Value.int IntKind.u8 0, Value.int IntKind.u8 0, Value.int IntKind.u8 0, Value.int IntKind.u8 0, Value.int IntKind.u8 0, Value.int IntKind.u8 0] 24)).heap[w2.heap.size]? = some (.cells #[Value.int IntKind.u8 0, Value.int IntKind.u8 0, Value.int IntKind.u8 0, Value.int IntKind.u8 0, Value.int IntKind.u8 0, Value.int IntKind.u8 0, Value.int IntKind.u8 0, Value.int IntKind.u8 0, Value.int IntKind.u8 0, Value.int IntKind.u8 0, Value.int IntKind.u8 0, Value.int IntKind.u8 0, Value.int IntKind.u8 0, Value.int IntKind.u8 0, Value.int IntKind.u8 0, Value.int IntKind.u8 0, Value.int IntKind.u8 0, Value.int IntKind.u8 0, Value.int IntKind.u8 0, Value.int IntKind.u8 0, Value.int IntKind.u8 0, Value.int IntKind.u8 0, Value.int IntKind.u8 0, Value.int IntKind.u8 0, Value.int IntKind.u8 0, Value.int IntKind.u8 0, Value.int IntKind.u8 0, Value.int IntKind.u8 0, Value.int IntKind.u8 0, Value.int IntKind.u8 0, Value.int IntKind.u8 0, Value.int IntKind.u8 0] 24 (0, 0))) := heap_alloc_new w2 _
  go_upto_region 9 with (refine wpList_store_row rfl 24 (.tmp 14) (.tmp 52) rfl w2.heap.size (cellsOf d0).toArray rfl rfl 24 _ HN2.out (by rw [size24, dig_size HDL.out]) (by rw [dig_size HDL.out]; rfl) (cells_all _) ?_)
  have HR3 := setRow_heap _ _ _ (cellsOf d0).toArray _ _ HN2.out
  have HB3 : Below w2.heap.size w2 ((w2.alloc (.cells #[Value.int IntKind.u8 0, Value.int IntKind.u8 0, Value.int IntKind.u8 0, Value.int IntKind.u8 0, Value.int IntKind.u8 0, Value.int IntKind.u8 0, Value.int IntKind.u8 0, Value.int IntKind.u8 0, Value.int IntKind.u8 0, Value.int IntKind.u8 0, Value.int IntKind.u8 0, Value.int IntKind.u8 0, Value.int IntKind.u8 0, Value.int IntKind.u8 0, Value.int IntKind.u8 0, Value.int IntKind.u8 0, Value.int IntKind.u8 0, Value.int IntKind.u8 0, Value.int IntKind.u8 0, Value.int IntKind.u8 0, Value.int IntKind.u8 0, Value.int IntKind.u8 0, Value.int IntKind.u8 0, Value.int IntKind.u8 0, Value.int IntKind.u8 0, Value.int IntKind.u8 0, Value.int IntKind.u8 0, Value.int IntKind.u8 0, Value.int IntKind.u8 0, Value.int IntKind.u8 0, Value.int IntKind.u8 0, Value.int IntKind.u8 0] 24)).setRow w2.heap.size (cellsOf d0).toArray) := below_row (bel_alloc w2 _) (Nat.le_refl _) _
  obtain ⟨w3, HW3⟩ : ∃ W, Hid ((w2.alloc (.cells #[Value.int IntKind.u8 0, Value.int IntKind.u8 0, Value.int IntKind.u8 0, Value.int IntKind.u8 0, Value.int IntKind.u8 0, Value.int IntKind.u8 0, Value.int IntKind.u8 0, Value.int IntKind.u8 0, Value.int IntKind.u8 0, Value.int IntKind.u8 0, Value.int IntKind.u8 0, Value.int IntKind.u8 0, Value.int IntKind.u8 0, Value.int IntKind.u8 0, Value.int IntKind.u8 0, Value.int IntKind.u8 0, Value.int IntKind.u8 0, Value.int IntKind.u8 0, Value.int IntKind.u8 0, Value.int IntKind.u8 0, Value.int IntKind.u8 0, Value.int IntKind.u8 0, Value.int IntKind.u8 0, Value.int IntKind.u8 0, Value.int IntKind.u8 0, Value.int IntKind.u8 0, Value.int IntKind.u8 0, Value.int IntKind.u8 0, Value.int IntKind.u8 0, Value.int IntKind.u8 0, Value.int IntKind.u8 0, Value.int IntKind.u8 0] 24)).setRow w2.heap.size (cellsOf d0).toArray = W) := ⟨_, rfl⟩
  rw [HW3.out] at HR3 HB3 ⊢
  have HR3 : Hid _ := HR3
  have HB13 : Hid (Below w1.heap.size w1 w3) := HB2.out.trans (HB3.mono HB2.out.size)
  have HL3 : Hid (w3.heap[W0.heap.size]? = some (.cells (cellsOf last).toArray 24 (0, 0))) := (HB13.out.block _ (Array.getElem?_eq_some_iff.1 HR1.out).1).trans HR1.out
  have HB03 : Hid (Below W0.heap.size W0 w3) := HB1.out.trans (HB13.out.mono HB1.out.size)
  clear HW3 HN2 HB3
  go_wp2_with (first | (refine wpList_load_row rfl 24 (.tmp 14) rfl w2.heap.size rfl 24 (cellsOf d0).toArray (0, 0) _ HR3.out Tryd.underlying24 rfl HID.out ?_) | (refine wpList_load_row rfl 24 (.tmp 12) rfl W0.heap.size rfl 24 (cellsOf last).toArray (0, 0) _ HL3.out Tryd.underlying24 rfl HIL2.out ?_))
  refine (HND.out _).mono ?_
  rintro e w4 ⟨rfl, hb4⟩
  have HB04 : Hid (Below W0.heap.size W0 w4) := HB03.out.trans (hb4.mono HB03.out.size)
  have HN4 : Hid (w4.heap[w.heap.size]? = some (.cells #[Value.int IntKind.u8 0, Value.int IntKind.u8 0, Value.int IntKind.u8 0, Value.int IntKind.u8 0, Value.int IntKind.u8 0, Value.int IntKind.u8 0, Value.int IntKind.u8 0, Value.int IntKind.u8 0, Value.int IntKind.u8 0, Value.int IntKind.u8 0, Value.int IntKind.u8 0, Value.int IntKind.u8 0, Value.int IntKind.u8 0, Value.int IntKind.u8 0, Value.int IntKind.u8 0, Value.int IntKind.u8 0, Value.int IntKind.u8 0, Value.int IntKind.u8 0, Value.int IntKind.u8 0, Value.int IntKind.u8 0, Value.int IntKind.u8 0, Value.int IntKind.u8 0, Value.int IntKind.u8 0, Value.int IntKind.u8 0, Value.int IntKind.u8 0, Value.int IntKind.u8 0, Value.int IntKind.u8 0, Value.int IntKind.u8 0, Value.int IntKind.u8 0, Value.int IntKind.u8 0, Value.int IntKind.u8 0, Value.int IntKind.u8 0] 24 (0, 0))) := (HB04.out.block _ (Array.getElem?_eq_some_iff.1 HN0.out).1).trans HN0.out
  have HBW4 : Hid (Below w.heap.size w w4) := HB0.out.trans (HB04.out.mono HB0.out.size)
  clear hb4
  unfold dv
  go_wp2_with (refine wpList_store_row rfl 24 (.tmp 10) (.tmp 57) rfl w.heap.size (cellsOf nd).toArray rfl rfl 24 _ HN4.out (by rw [size24, dig_size HNL.out]) (by rw [dig_size HNL.out]; rfl) (cells_all _) ?_)
  refine bodyPost_ret (results_dig_bool rfl _ _ w.heap.size 24 (cellsOf nd).toArray (0, 0) rfl (setRow_heap _ _ _ _ _ _ HN4.out) (by rw [dig_size HNL.out])) rfl ?_
  exact ⟨nd, ok, rfl, HAB.out, below_row HBW4.out (Nat.le_refl _) _⟩
set_option maxRecDepth 100000 in
set_option maxHeartbeats 4000000 in
theorem refAbove_right (z : Int) (s : ByteArray) (n x pb po m c : Nat) (es : List (List UInt8)) (last : List UInt8) (w : World) (h2 : 2 ≤ n) (hn : n ≤ 9223372036854775807) (hx : x < n) (hc : halfN n ≤ x) (hm : m ≤ 1000) (hmc : m + 1 ≤ c) (hlast : last.length = 32) (hz : -9223372036854775808 ≤ z ∧ z ≤ 9223372036854775807)
    (hR : w.rangeAt pb (po + m * 32) (cellsOf last))
    (HA : Hid (∀ W, Below w.heap.size w W → Calls Tryd.prog 68 #[.int .i64 z, .int .i64 ((n - halfN n : Nat) : Int), .int .i64 ((x - halfN n : Nat) : Int), .string s, .slice (some ⟨pb, po, none⟩) m c] W fun e w' => ∃ d ok, e = .returned (.tuple #[dv d, .bool ok]) ∧ AbV z s (n - halfN n) (x - halfN n) es d ok ∧ Below W.heap.size W w')) :
    Calls Tryd.prog 68 #[.int .i64 z, .int .i64 (n : Int), .int .i64 (x : Int), .string s, .slice (some ⟨pb, po, none⟩) (m + 1) c] w fun e w' => ∃ d ok, e = .returned (.tuple #[dv d, .bool ok]) ∧ AbV z s n x (es ++ [last]) d ok ∧ Below w.heap.size w w' := by
  have HHF : Hid (∀ W, Calls Tryd.prog 61 #[.int .i64 (n : Int)] W fun e w' => e = .returned (.int .i64 ((halfN n : Nat) : Int)) ∧ w' = W) := fun W => refHalf_any n W h2 hn
  have HABO : Hid (∀ d ok, AbV z s (n - halfN n) (x - halfN n) es d ok → AbV z s n x (es ++ [last]) (nodeD z last d) ok) := fun d ok h => ab_right h2 hn hc h
  have HNDG : Hid (∀ (d : List UInt8) W, d.length = 32 → Calls Tryd.prog 27 #[.int .i64 z, .agg (cellsOf last).toArray, .agg (cellsOf d).toArray] W fun e w' => e = .returned (dv (nodeD z last d)) ∧ Below W.heap.size W w') := fun d W hd => refNode_any z last d W hlast hd hz
  obtain ⟨s1, s2, -⟩ := halfN_spec n h2 hn
  obtain ⟨k, HK⟩ : ∃ k, Hid (halfN n = k) := ⟨_, rfl⟩
  rw [HK.out] at HHF HA HABO s1 s2 hc
  have HLL : Hid (last.length = 32) := hlast
  have HIL : Hid ((Tryd.prog.info? 24).map (·.size) = some (cellsOf last).length) := by show _ = _; rw [size24, cellsOf_length, hlast]
  have HIL2 : Hid ((Tryd.prog.info? 24).map (·.size) = some (cellsOf last).toArray.size) := by show _ = _; rw [size24, dig_size hlast]
  have HRG : Hid (∀ W, Below w.heap.size w W → W.rangeAt pb (po + m * 32) (cellsOf last)) := fun W hW => range_bel hR hW (Nat.le_refl _)
  have y1 : ((n : Int) == 1) = false := by simp; omega
  have y3 : ¬ (x : Int) < (k : Int) := by omega
  have hmz : (m : Int) ≤ (c : Int) := by omega
  have HW1 : Hid (wrap64 ((n : Int) - (k : Int)) = ((n - k : Nat) : Int)) := wsub (Nat.le_of_lt s2) hn
  have HW2 : Hid (wrap64 ((x : Int) - (k : Int)) = ((x - k : Nat) : Int)) := wsub hc (Nat.le_trans (Nat.le_of_lt hx) hn)
  clear hlast hz hR h2 hn s1 s2 hc hx
  go_enter Tryd.func68, Tryd.ntmps68
  have HN0 : Hid ((w.alloc (.cells #[Value.int IntKind.u8 0, Value.int IntKind.u8 0, Value.int IntKind.u8 0, Value.int IntKind.u8 0, Value.int IntKind.u8 0, Value.int IntKind.u8 0, Value.int IntKind.u8 0, Value.int IntKind.u8 0, Value.int IntKind.u8 0, Value.int IntKind.u8 0, Value.int IntKind.u8 0, Value.int IntKind.u8 0, Value.int IntKind.u8 0, Value.int IntKind.u8 0, Value.int IntKind.u8 0, Value.int IntKind.u8 0, Value.int IntKind.u8 0, Value.int IntKind.u8 0, Value.int IntKind.u8 0, Value.int IntKind.u8 0, Value.int IntKind.u8 0, Value.int IntKind.u8 0, Value.int IntKind.u8 0, Value.int IntKind.u8 0, Value.int IntKind.u8 0, Value.int IntKind.u8 0, Value.int IntKind.u8 0, Value.int IntKind.u8 0, Value.int IntKind.u8 0, Value.int IntKind.u8 0, Value.int IntKind.u8 0, Value.int IntKind.u8 0] 24)).heap[w.heap.size]? = some (.cells #[Value.int IntKind.u8 0, Value.int IntKind.u8 0, Value.int IntKind.u8 0, Value.int IntKind.u8 0, Value.int IntKind.u8 0, Value.int IntKind.u8 0, Value.int IntKind.u8 0, Value.int IntKind.u8 0, Value.int IntKind.u8 0, Value.int IntKind.u8 0, Value.int IntKind.u8 0, Value.int IntKind.u8 0, Value.int IntKind.u8 0, Value.int IntKind.u8 0, Value.int IntKind.u8 0, Value.int IntKind.u8 0, Value.int IntKind.u8 0, Value.int IntKind.u8 0, Value.int IntKind.u8 0, Value.int IntKind.u8 0, Value.int IntKind.u8 0, Value.int IntKind.u8 0, Value.int IntKind.u8 0, Value.int IntKind.u8 0, Value.int IntKind.u8 0, Value.int IntKind.u8 0, Value.int IntKind.u8 0, Value.int IntKind.u8 0, Value.int IntKind.u8 0, Value.int IntKind.u8 0, Value.int IntKind.u8 0, Value.int IntKind.u8 0] 24 (0, 0))) := heap_alloc_new w _
  have HB0 : Hid (Below w.heap.size w (w.alloc (.cells #[Value.int IntKind.u8 0, Value.int IntKind.u8 0, Value.int IntKind.u8 0, Value.int IntKind.u8 0, Value.int IntKind.u8 0, Value.int IntKind.u8 0, Value.int IntKind.u8 0, Value.int IntKind.u8 0, Value.int IntKind.u8 0, Value.int IntKind.u8 0, Value.int IntKind.u8 0, Value.int IntKind.u8 0, Value.int IntKind.u8 0, Value.int IntKind.u8 0, Value.int IntKind.u8 0, Value.int IntKind.u8 0, Value.int IntKind.u8 0, Value.int IntKind.u8 0, Value.int IntKind.u8 0, Value.int IntKind.u8 0, Value.int IntKind.u8 0, Value.int IntKind.u8 0, Value.int IntKind.u8 0, Value.int IntKind.u8 0, Value.int IntKind.u8 0, Value.int IntKind.u8 0, Value.int IntKind.u8 0, Value.int IntKind.u8 0, Value.int IntKind.u8 0, Value.int IntKind.u8 0, Value.int IntKind.u8 0, Value.int IntKind.u8 0] 24))) := bel_alloc w _
  obtain ⟨W0, HW0⟩ : ∃ W, Hid (w.alloc (.cells #[Value.int IntKind.u8 0, Value.int IntKind.u8 0, Value.int IntKind.u8 0, Value.int IntKind.u8 0, Value.int IntKind.u8 0, Value.int IntKind.u8 0, Value.int IntKind.u8 0, Value.int IntKind.u8 0, Value.int IntKind.u8 0, Value.int IntKind.u8 0, Value.int IntKind.u8 0, Value.int IntKind.u8 0, Value.int IntKind.u8 0, Value.int IntKind.u8 0, Value.int IntKind.u8 0, Value.int IntKind.u8 0, Value.int IntKind.u8 0, Value.int IntKind.u8 0, Value.int IntKind.u8 0, Value.int IntKind.u8 0, Value.int IntKind.u8 0, Value.int IntKind.u8 0, Value.int IntKind.u8 0, Value.int IntKind.u8 0, Value.int IntKind.u8 0, Value.int IntKind.u8 0, Value.int IntKind.u8 0, Value.int IntKind.u8 0, Value.int IntKind.u8 0, Value.int IntKind.u8 0, Value.int IntKind.u8 0, Value.int IntKind.u8 0] 24) = W) := ⟨_, rfl⟩
  have HRG0 : Hid (W0.rangeAt pb (po + m * 32) (cellsOf last)) := HRG.out _ (by rw [← HW0.out]; exact HB0.out)
  go_upto_region 5 with fail
  rw [HW0.out] at HN0 HB0 ⊢
  clear HW0 y1
  have HN1 : Hid ((W0.alloc (.cells #[Value.int IntKind.u8 0, Value.int IntKind.u8 0, Value.int IntKind.u8 0, Value.int IntKind.u8 0, Value.int IntKind.u8 0, Value.int IntKind.u8 0, Value.int IntKind.u8 0, Value.int IntKind.u8 0, Value.int IntKind.u8 0, Value.int IntKind.u8 0, Value.int IntKind.u8 0, Value.int IntKind.u8 0, Value.int IntKind.u8 0, Value.int IntKind.u8 0, Value.int IntKind.u8 0, Value.int IntKind.u8 0, Value.int IntKind.u8 0, Value.int IntKind.u8 0, Value.int IntKind.u8 0, Value.int IntKind.u8 0, Value.int IntKind.u8 0, Value.int IntKind.u8 0, Value.int IntKind.u8 0, Value.int IntKind.u8 0, Value.int IntKind.u8 0, Value.int IntKind.u8 0, Value.int IntKind.u8 0, Value.int IntKind.u8 0, Value.int IntKind.u8 0, Value.int IntKind.u8 0, Value.int IntKind.u8 0, Value.int IntKind.u8 0] 24)).heap[W0.heap.size]? = some (.cells #[Value.int IntKind.u8 0, Value.int IntKind.u8 0, Value.int IntKind.u8 0, Value.int IntKind.u8 0, Value.int IntKind.u8 0, Value.int IntKind.u8 0, Value.int IntKind.u8 0, Value.int IntKind.u8 0, Value.int IntKind.u8 0, Value.int IntKind.u8 0, Value.int IntKind.u8 0, Value.int IntKind.u8 0, Value.int IntKind.u8 0, Value.int IntKind.u8 0, Value.int IntKind.u8 0, Value.int IntKind.u8 0, Value.int IntKind.u8 0, Value.int IntKind.u8 0, Value.int IntKind.u8 0, Value.int IntKind.u8 0, Value.int IntKind.u8 0, Value.int IntKind.u8 0, Value.int IntKind.u8 0, Value.int IntKind.u8 0, Value.int IntKind.u8 0, Value.int IntKind.u8 0, Value.int IntKind.u8 0, Value.int IntKind.u8 0, Value.int IntKind.u8 0, Value.int IntKind.u8 0, Value.int IntKind.u8 0, Value.int IntKind.u8 0] 24 (0, 0))) := heap_alloc_new W0 _
  go_upto_region 6 with (first | (refine wpList_load_mid rfl 24 (.tmp 34) rfl pb (po + m * 32) rfl (cellsOf last) _ HRG0.out Tryd.underlying24 rfl HIL.out ?_) | (refine wpList_store_row rfl 24 (.tmp 12) (.tmp 35) rfl W0.heap.size (cellsOf last).toArray rfl rfl 24 _ HN1.out (by rw [size24, dig_size HLL.out]) (by rw [dig_size HLL.out]; rfl) (cells_all _) ?_))
  have HR1 := setRow_heap _ _ _ (cellsOf last).toArray _ _ HN1.out
  have HB1 : Below W0.heap.size W0 ((W0.alloc (.cells #[Value.int IntKind.u8 0, Value.int IntKind.u8 0, Value.int IntKind.u8 0, Value.int IntKind.u8 0, Value.int IntKind.u8 0, Value.int IntKind.u8 0, Value.int IntKind.u8 0, Value.int IntKind.u8 0, Value.int IntKind.u8 0, Value.int IntKind.u8 0, Value.int IntKind.u8 0, Value.int IntKind.u8 0, Value.int IntKind.u8 0, Value.int IntKind.u8 0, Value.int IntKind.u8 0, Value.int IntKind.u8 0, Value.int IntKind.u8 0, Value.int IntKind.u8 0, Value.int IntKind.u8 0, Value.int IntKind.u8 0, Value.int IntKind.u8 0, Value.int IntKind.u8 0, Value.int IntKind.u8 0, Value.int IntKind.u8 0, Value.int IntKind.u8 0, Value.int IntKind.u8 0, Value.int IntKind.u8 0, Value.int IntKind.u8 0, Value.int IntKind.u8 0, Value.int IntKind.u8 0, Value.int IntKind.u8 0, Value.int IntKind.u8 0] 24)).setRow W0.heap.size (cellsOf last).toArray) := below_row (bel_alloc W0 _) (Nat.le_refl _) _
  obtain ⟨w1, HW1'⟩ : ∃ W, Hid ((W0.alloc (.cells #[Value.int IntKind.u8 0, Value.int IntKind.u8 0, Value.int IntKind.u8 0, Value.int IntKind.u8 0, Value.int IntKind.u8 0, Value.int IntKind.u8 0, Value.int IntKind.u8 0, Value.int IntKind.u8 0, Value.int IntKind.u8 0, Value.int IntKind.u8 0, Value.int IntKind.u8 0, Value.int IntKind.u8 0, Value.int IntKind.u8 0, Value.int IntKind.u8 0, Value.int IntKind.u8 0, Value.int IntKind.u8 0, Value.int IntKind.u8 0, Value.int IntKind.u8 0, Value.int IntKind.u8 0, Value.int IntKind.u8 0, Value.int IntKind.u8 0, Value.int IntKind.u8 0, Value.int IntKind.u8 0, Value.int IntKind.u8 0, Value.int IntKind.u8 0, Value.int IntKind.u8 0, Value.int IntKind.u8 0, Value.int IntKind.u8 0, Value.int IntKind.u8 0, Value.int IntKind.u8 0, Value.int IntKind.u8 0, Value.int IntKind.u8 0] 24)).setRow W0.heap.size (cellsOf last).toArray = W) := ⟨_, rfl⟩
  rw [HW1'.out] at HR1 HB1 ⊢
  have HR1 : Hid _ := HR1
  have HB1 : Hid (Below W0.heap.size W0 w1) := HB1
  have HBW1 : Hid (Below w.heap.size w w1) := HB0.out.trans (HB1.out.mono HB0.out.size)
  clear HW1' HN1
  go_wp2_with fail
  refine (HHF.out _).mono ?_
  rintro e wx ⟨rfl, hwx⟩
  rw [hwx]
  clear hwx wx
  have hw1 := HW1.out
  have hw2 := HW2.out
  go_wp2_with fail
  refine (HA.out _ HBW1.out).mono ?_
  rintro e w2 ⟨d0, ok, rfl, hab, hb2⟩
  have HAB : Hid (AbV z s n x (es ++ [last]) (nodeD z last d0) ok) := HABO.out d0 ok hab
  have HDL : Hid (d0.length = 32) := hab.1
  have HID : Hid ((Tryd.prog.info? 24).map (·.size) = some (cellsOf d0).toArray.size) := by show _ = _; rw [size24, dig_size hab.1]
  have HB2 : Hid (Below w1.heap.size w1 w2) := hb2
  have HND : Hid (∀ W, Calls Tryd.prog 27 #[.int .i64 z, .agg (cellsOf last).toArray, .agg (cellsOf d0).toArray] W fun e w' => e = .returned (dv (nodeD z last d0)) ∧ Below W.heap.size W w') := fun W => HNDG.out d0 W hab.1
  clear hab hb2 y3 hmz hm hmc HA HHF HABO HNDG hw1 hw2
  obtain ⟨nd, HNDD⟩ : ∃ d, Hid (nodeD z last d0 = d) := ⟨_, rfl⟩
  rw [HNDD.out] at HAB HND
  have HNL : Hid (nd.length = 32) := by show _ = _; rw [← HNDD.out]; exact nodeD_length _ _ _
  unfold dv
  have HN2 : Hid ((w2.alloc (.cells #[Value.int IntKind.u8 0, Value.int IntKind.u8 0, Value.int IntKind.u8 0, Value.int IntKind.u8 0, Value.int IntKind.u8 0, Value.int IntKind.u8 0, Value.int IntKind.u8 0, Value.int IntKind.u8 0, Value.int IntKind.u8 0, Value.int IntKind.u8 0, Value.int IntKind.u8 0, Value.int IntKind.u8 0, Value.int IntKind.u8 0, Value.int IntKind.u8 0, Value.int IntKind.u8 0, Value.int IntKind.u8 0, Value.int IntKind.u8 0, Value.int IntKind.u8 0, Value.int IntKind.u8 0, Value.int IntKind.u8 0, Value.int IntKind.u8 0, Value.int IntKind.u8 0, Value.int IntKind.u8 0, Value.int IntKind.u8 0, Value.int IntKind.u8 0, Value.int IntKind.u8 0, Value.int IntKind.u8 0, Value.int IntKind.u8 0, Value.int IntKind.u8 0, Value.int IntKind.u8 0, Value.int IntKind.u8 0, Value.int IntKind.u8 0] 24)).heap[w2.heap.size]? = some (.cells #[Value.int IntKind.u8 0, Value.int IntKind.u8 0, Value.int IntKind.u8 0, Value.int IntKind.u8 0, Value.int IntKind.u8 0, Value.int IntKind.u8 0, Value.int IntKind.u8 0, Value.int IntKind.u8 0, Value.int IntKind.u8 0, Value.int IntKind.u8 0, Value.int IntKind.u8 0, Value.int IntKind.u8 0, Value.int IntKind.u8 0, Value.int IntKind.u8 0, Value.int IntKind.u8 0, Value.int IntKind.u8 0, Value.int IntKind.u8 0, Value.int IntKind.u8 0, Value.int IntKind.u8 0, Value.int IntKind.u8 0, Value.int IntKind.u8 0, Value.int IntKind.u8 0, Value.int IntKind.u8 0, Value.int IntKind.u8 0, Value.int IntKind.u8 0, Value.int IntKind.u8 0, Value.int IntKind.u8 0, Value.int IntKind.u8 0, Value.int IntKind.u8 0, Value.int IntKind.u8 0, Value.int IntKind.u8 0, Value.int IntKind.u8 0] 24 (0, 0))) := heap_alloc_new w2 _
  go_upto_region 11 with (refine wpList_store_row rfl 24 (.tmp 16) (.tmp 74) rfl w2.heap.size (cellsOf d0).toArray rfl rfl 24 _ HN2.out (by rw [size24, dig_size HDL.out]) (by rw [dig_size HDL.out]; rfl) (cells_all _) ?_)
  have HR3 := setRow_heap _ _ _ (cellsOf d0).toArray _ _ HN2.out
  have HB3 : Below w2.heap.size w2 ((w2.alloc (.cells #[Value.int IntKind.u8 0, Value.int IntKind.u8 0, Value.int IntKind.u8 0, Value.int IntKind.u8 0, Value.int IntKind.u8 0, Value.int IntKind.u8 0, Value.int IntKind.u8 0, Value.int IntKind.u8 0, Value.int IntKind.u8 0, Value.int IntKind.u8 0, Value.int IntKind.u8 0, Value.int IntKind.u8 0, Value.int IntKind.u8 0, Value.int IntKind.u8 0, Value.int IntKind.u8 0, Value.int IntKind.u8 0, Value.int IntKind.u8 0, Value.int IntKind.u8 0, Value.int IntKind.u8 0, Value.int IntKind.u8 0, Value.int IntKind.u8 0, Value.int IntKind.u8 0, Value.int IntKind.u8 0, Value.int IntKind.u8 0, Value.int IntKind.u8 0, Value.int IntKind.u8 0, Value.int IntKind.u8 0, Value.int IntKind.u8 0, Value.int IntKind.u8 0, Value.int IntKind.u8 0, Value.int IntKind.u8 0, Value.int IntKind.u8 0] 24)).setRow w2.heap.size (cellsOf d0).toArray) := below_row (bel_alloc w2 _) (Nat.le_refl _) _
  obtain ⟨w3, HW3⟩ : ∃ W, Hid ((w2.alloc (.cells #[Value.int IntKind.u8 0, Value.int IntKind.u8 0, Value.int IntKind.u8 0, Value.int IntKind.u8 0, Value.int IntKind.u8 0, Value.int IntKind.u8 0, Value.int IntKind.u8 0, Value.int IntKind.u8 0, Value.int IntKind.u8 0, Value.int IntKind.u8 0, Value.int IntKind.u8 0, Value.int IntKind.u8 0, Value.int IntKind.u8 0, Value.int IntKind.u8 0, Value.int IntKind.u8 0, Value.int IntKind.u8 0, Value.int IntKind.u8 0, Value.int IntKind.u8 0, Value.int IntKind.u8 0, Value.int IntKind.u8 0, Value.int IntKind.u8 0, Value.int IntKind.u8 0, Value.int IntKind.u8 0, Value.int IntKind.u8 0, Value.int IntKind.u8 0, Value.int IntKind.u8 0, Value.int IntKind.u8 0, Value.int IntKind.u8 0, Value.int IntKind.u8 0, Value.int IntKind.u8 0, Value.int IntKind.u8 0, Value.int IntKind.u8 0] 24)).setRow w2.heap.size (cellsOf d0).toArray = W) := ⟨_, rfl⟩
  rw [HW3.out] at HR3 HB3 ⊢
  have HR3 : Hid _ := HR3
  have HB13 : Hid (Below w1.heap.size w1 w3) := HB2.out.trans (HB3.mono HB2.out.size)
  have HL3 : Hid (w3.heap[W0.heap.size]? = some (.cells (cellsOf last).toArray 24 (0, 0))) := (HB13.out.block _ (Array.getElem?_eq_some_iff.1 HR1.out).1).trans HR1.out
  have HB03 : Hid (Below W0.heap.size W0 w3) := HB1.out.trans (HB13.out.mono HB1.out.size)
  clear HW3 HN2 HB3
  go_wp2_with (first | (refine wpList_load_row rfl 24 (.tmp 16) rfl w2.heap.size rfl 24 (cellsOf d0).toArray (0, 0) _ HR3.out Tryd.underlying24 rfl HID.out ?_) | (refine wpList_load_row rfl 24 (.tmp 12) rfl W0.heap.size rfl 24 (cellsOf last).toArray (0, 0) _ HL3.out Tryd.underlying24 rfl HIL2.out ?_))
  refine (HND.out _).mono ?_
  rintro e w4 ⟨rfl, hb4⟩
  have HB04 : Hid (Below W0.heap.size W0 w4) := HB03.out.trans (hb4.mono HB03.out.size)
  have HN4 : Hid (w4.heap[w.heap.size]? = some (.cells #[Value.int IntKind.u8 0, Value.int IntKind.u8 0, Value.int IntKind.u8 0, Value.int IntKind.u8 0, Value.int IntKind.u8 0, Value.int IntKind.u8 0, Value.int IntKind.u8 0, Value.int IntKind.u8 0, Value.int IntKind.u8 0, Value.int IntKind.u8 0, Value.int IntKind.u8 0, Value.int IntKind.u8 0, Value.int IntKind.u8 0, Value.int IntKind.u8 0, Value.int IntKind.u8 0, Value.int IntKind.u8 0, Value.int IntKind.u8 0, Value.int IntKind.u8 0, Value.int IntKind.u8 0, Value.int IntKind.u8 0, Value.int IntKind.u8 0, Value.int IntKind.u8 0, Value.int IntKind.u8 0, Value.int IntKind.u8 0, Value.int IntKind.u8 0, Value.int IntKind.u8 0, Value.int IntKind.u8 0, Value.int IntKind.u8 0, Value.int IntKind.u8 0, Value.int IntKind.u8 0, Value.int IntKind.u8 0, Value.int IntKind.u8 0] 24 (0, 0))) := (HB04.out.block _ (Array.getElem?_eq_some_iff.1 HN0.out).1).trans HN0.out
  have HBW4 : Hid (Below w.heap.size w w4) := HB0.out.trans (HB04.out.mono HB0.out.size)
  clear hb4
  unfold dv
  go_wp2_with (refine wpList_store_row rfl 24 (.tmp 10) (.tmp 79) rfl w.heap.size (cellsOf nd).toArray rfl rfl 24 _ HN4.out (by rw [size24, dig_size HNL.out]) (by rw [dig_size HNL.out]; rfl) (cells_all _) ?_)
  refine bodyPost_ret (results_dig_bool rfl _ _ w.heap.size 24 (cellsOf nd).toArray (0, 0) rfl (setRow_heap _ _ _ _ _ _ HN4.out) (by rw [dig_size HNL.out])) rfl ?_
  exact ⟨nd, ok, rfl, HAB.out, below_row HBW4.out (Nat.le_refl _) _⟩
theorem refAbove_any (z : Int) (hz : -9223372036854775808 ≤ z ∧ z ≤ 9223372036854775807) (s : ByteArray) (hs : s.size ≤ 1000) : ∀ (n x : Nat) (ao : Option Addr) (c : Nat) (ds : List (List UInt8)) (w : World), x < n → n ≤ 9223372036854775807 → ds.length ≤ 1000 → ds.length ≤ c → PathV w ao ds →
    Calls Tryd.prog 68 #[.int .i64 z, .int .i64 (n : Int), .int .i64 (x : Int), .string s, .slice ao ds.length c] w fun e w' => ∃ d ok, e = .returned (.tuple #[dv d, .bool ok]) ∧ AbV z s n x ds d ok ∧ Below w.heap.size w w' := by
  intro n
  induction n using Nat.strongRecOn with
  | ind n ih =>
    intro x ao c ds w hx hn hd hc hP
    by_cases h1 : n = 1
    · subst h1
      obtain rfl : x = 0 := by omega
      exact refAbove_one z s ao c ds w hs hz
    · obtain ⟨s1, s2, -⟩ := halfN_spec n (by omega) hn
      rcases List.eq_nil_or_concat ds with rfl | ⟨es, last, rfl⟩
      · exact refAbove_zero z s n x ao c w (by omega) hn
      · rw [List.concat_eq_append] at hd hc hP ⊢
        rw [List.length_append, List.length_singleton] at hd hc ⊢
        obtain ⟨pb, po, rfl, hpp⟩ := hP.2 (by simp)
        have hl := hP.1 last (by simp)
        have hr := hpp es.length last (by simp)
        have hE : ∀ W, Below w.heap.size w W → PathV W (some ⟨pb, po, none⟩) es := fun W hW => by
          have h := (hP.below hW (Nat.le_refl _)).take es.length
          rwa [List.take_left'] at h
          rfl
        by_cases hxk : x < halfN n
        · exact refAbove_left z s n x pb po es.length c es last w (by omega) hn hx hxk (by omega) hc hl hz hr (fun W hW => ih (halfN n) (by omega) x _ c es W hxk (by omega) (by omega) (by omega) (hE W hW))
        · exact refAbove_right z s n x pb po es.length c es last w (by omega) hn hx (by omega) (by omega) hc hl hz hr (fun W hW => ih (n - halfN n) (by omega) (x - halfN n) _ c es W (by omega) (by omega) (by omega) (by omega) (hE W hW))
end Go.Proofs.YtaebpnednhkfhaaDoor
