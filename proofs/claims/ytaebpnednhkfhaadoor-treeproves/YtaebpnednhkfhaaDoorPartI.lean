/-
  What marlstoneref05.Over answers: a contract over this translation. What marlstoneref05.Over answers, in two parts: contracts over this translation. What marlstoneref05.Over answers, whatever is handed over: a contract over this translation.
-/
import Derived.Test.YtaebpnednhkfhaaDoorRefAb
import Derived.Test.YtaebpnednhkfhaaDoorAll
namespace Go.Proofs.YtaebpnednhkfhaaDoor
open Go.RowKit
theorem results_dig_two {fn : Func} {p q r : Tmp} (h : fn.results = #[.cell p 24, .tmp q, .tmp r]) (tmps : Array Value) (w : World) (g : Nat) (t : TypeId) (cs : Array Value) (fr : Nat × Nat)
    (hp : tmps.getD p undef = .pointer (some ⟨g, 0, none⟩)) (h1 : w.heap[g]? = some (.cells cs t fr)) (s1 : cs.size = 32) :
    (results fn tmps).run Tryd.prog w = .ok (.tuple #[.agg cs, tmps.getD q undef, tmps.getD r undef]) w := by
  have hp' : tmps[p]?.getD undef = .pointer (some ⟨g, 0, none⟩) := by simpa using hp
  simp [results, h, hp', asAddr, run_loadVar_row w g t 24 cs fr _ h1 Tryd.underlying24 rfl (by rw [size24, s1])]
theorem fillF_fuel (z : Int) (ls : List LV) (c d : Nat) (hcd : c < d) : ∀ (k f g a b : Nat) (ds : List (List UInt8)), b - a ≤ 2 ^ k → k < f → k < g → a < b → b ≤ 9223372036854775807 → fillF z ls c d f a b ds = fillF z ls c d g a b ds := by
  intro k
  induction k with
  | zero =>
    intro f g a b ds hk hf hg hab _
    obtain ⟨f, rfl⟩ : ∃ f', f = f' + 1 := ⟨f - 1, by omega⟩
    obtain ⟨g, rfl⟩ : ∃ g', g = g' + 1 := ⟨g - 1, by omega⟩
    rw [fillF, fillF]
    by_cases h1 : b ≤ c ∨ d ≤ a
    · rw [if_pos h1, if_pos h1]
    · have h2 := out_one (by simpa using hk) hab hcd h1
      rw [if_neg h1, if_neg h1, if_pos h2, if_pos h2]
  | succ k ih =>
    intro f g a b ds hk hf hg hab hb
    obtain ⟨f, rfl⟩ : ∃ f', f = f' + 1 := ⟨f - 1, by omega⟩
    obtain ⟨g, rfl⟩ : ∃ g', g = g' + 1 := ⟨g - 1, by omega⟩
    rw [fillF, fillF]
    by_cases h1 : b ≤ c ∨ d ≤ a
    · rw [if_pos h1, if_pos h1]
    · by_cases h2 : c ≤ a ∧ b ≤ d
      · rw [if_neg h1, if_neg h1, if_pos h2, if_pos h2]
      · obtain ⟨h4, -⟩ := outL_two hcd hab hb h1 h2
        obtain ⟨s1, s2, -⟩ := halfN_spec (b - a) h4 (by omega)
        obtain ⟨l1, l2⟩ := halfN_le (b - a) k h4 (by omega) hk
        rw [if_neg h1, if_neg h1, if_neg h2, if_neg h2, ih f g a (a + halfN (b - a)) _ (by omega) (by omega) (by omega) (by omega) (by omega), ih f g (a + halfN (b - a)) b _ (by omega) (by omega) (by omega) (by omega) hb]
theorem fill_apart_v (z : Int) (ls : List LV) {a b c d : Nat} (ds : List (List UInt8)) (h1 : b ≤ c ∨ d ≤ a) : fillF z ls c d 64 a b ds = ds.headD [] := by
  show fillF z ls c d (63 + 1) a b ds = _
  rw [fillF, if_pos h1]
theorem fill_within_v (z : Int) (ls : List LV) {a b c d : Nat} (ds : List (List UInt8)) (h1 : ¬ (b ≤ c ∨ d ≤ a)) (h2 : c ≤ a ∧ b ≤ d) : fillF z ls c d 64 a b ds = rootD z (bytesL (partL ls (a - c) (b - c))) := by
  show fillF z ls c d (63 + 1) a b ds = _
  rw [fillF, if_neg h1, if_pos h2]
theorem split_v {a b c d : Nat} (hcd : c < d) (hab : a < b) (hb : b ≤ 9223372036854775807) (h1 : ¬ (b ≤ c ∨ d ≤ a)) (h2 : 2 ≤ b - a) : outL a b c d = outL a (a + halfN (b - a)) c d ++ outL (a + halfN (b - a)) b c d := by
  obtain ⟨s1, s2, -⟩ := halfN_spec (b - a) h2 (by omega)
  by_cases hw : c ≤ a ∧ b ≤ d
  · rw [outL_within h1 hw, outL_within (a := a) (b := a + halfN (b - a)) (by omega) (by omega), outL_within (a := a + halfN (b - a)) (b := b) (by omega) (by omega)]; rfl
  · exact (outL_two hcd hab hb h1 hw).2
theorem fill_split_v (z : Int) (ls : List LV) {a b c d : Nat} (ds : List (List UInt8)) (hcd : c < d) (hab : a < b) (hb : b ≤ 9223372036854775807) (h1 : ¬ (b ≤ c ∨ d ≤ a)) (h2 : 2 ≤ b - a) (hl : ls.length = d - c) (h3 : ls.length ≤ 1000) :
    fillF z ls c d 64 a b ds = nodeD z (fillF z ls c d 64 a (a + halfN (b - a)) ds) (fillF z ls c d 64 (a + halfN (b - a)) b (ds.drop (outL a (a + halfN (b - a)) c d).length)) := by
  obtain ⟨s1, s2, -⟩ := halfN_spec (b - a) h2 (by omega)
  by_cases hw : c ≤ a ∧ b ≤ d
  · rw [fill_within_v z ls ds h1 hw, fill_within_v z ls (a := a) (b := a + halfN (b - a)) _ (by omega) (by omega), fill_within_v z ls (a := a + halfN (b - a)) (b := b) _ (by omega) (by omega)]
    have h := root_part z ls (a - c) (b - c) (by omega) (by omega) h3
    rw [show b - c - (a - c) = b - a by omega] at h
    rw [h, show a + halfN (b - a) - c = a - c + halfN (b - a) by omega]
  · have hp := pow63
    obtain ⟨l1, l2⟩ := halfN_le (b - a) 62 h2 (by omega) (by have : (2 : Nat) ^ (62 + 1) = 2 ^ 63 := rfl; omega)
    show fillF z ls c d (63 + 1) a b ds = _
    rw [fillF, if_neg h1, if_neg hw, fillF_fuel z ls c d hcd 62 63 64 a (a + halfN (b - a)) _ (by omega) (by omega) (by omega) (by omega) (by omega), fillF_fuel z ls c d hcd 62 63 64 (a + halfN (b - a)) b _ (by omega) (by omega) (by omega) (by omega) hb]
/-- What comes out over some leaves. -/
def OvV (z : Int) (ls : List LV) (c d a b : Nat) (ds : List (List UInt8)) (g : List UInt8) (u : Int) (ok : Bool) : Prop := g.length = 32 ∧ ok = decide ((outL a b c d).length ≤ ds.length) ∧ (ok = true → u = ((outL a b c d).length : Nat) ∧ g = fillF z ls c d 64 a b ds)
def OvR (z : Int) (ls : List LV) (c d a b : Nat) (ds : List (List UInt8)) (w : World) (e : Ending) (w' : World) : Prop := ∃ g u ok, e = .returned (.tuple #[dv g, .int .i64 u, .bool ok]) ∧ OvV z ls c d a b ds g u ok ∧ Below w.heap.size w w'
set_option maxRecDepth 100000 in
set_option maxHeartbeats 4000000 in
theorem over_apart_no (z : Int) (ls : List LV) (c d a b : Nat) (n : Nat) (x y : Int) (po : Option Addr) (q pc : Nat) (ao : Option Addr) (cp : Nat) (w : World) (hap : b ≤ c ∨ d ≤ a) (hw : wrap64 (x + (q : Int)) = y) (hy : y ≤ 0 ∨ (¬ y ≤ 0 ∧ (n : Int) ≤ x)) :
    Calls Tryd.prog 70 #[.int .i64 z, .int .i64 (n : Int), .int .i64 x, .slice po q pc, .slice ao 0 cp] w (OvR z ls c d a b [] w) := by
  have HOV : Hid (OvV z ls c d a b [] (List.replicate 32 0) 0 false) := by
    refine ⟨by simp, ?_, fun h => by cases h⟩
    rw [outL_apart hap]; rfl
  rcases hy with hy | ⟨hy, hx⟩
  · clear hap
    go_enter Tryd.func70, Tryd.ntmps70
    have HN0 : Hid ((w.alloc (.cells #[Value.int IntKind.u8 0, Value.int IntKind.u8 0, Value.int IntKind.u8 0, Value.int IntKind.u8 0, Value.int IntKind.u8 0, Value.int IntKind.u8 0, Value.int IntKind.u8 0, Value.int IntKind.u8 0, Value.int IntKind.u8 0, Value.int IntKind.u8 0, Value.int IntKind.u8 0, Value.int IntKind.u8 0, Value.int IntKind.u8 0, Value.int IntKind.u8 0, Value.int IntKind.u8 0, Value.int IntKind.u8 0, Value.int IntKind.u8 0, Value.int IntKind.u8 0, Value.int IntKind.u8 0, Value.int IntKind.u8 0, Value.int IntKind.u8 0, Value.int IntKind.u8 0, Value.int IntKind.u8 0, Value.int IntKind.u8 0, Value.int IntKind.u8 0, Value.int IntKind.u8 0, Value.int IntKind.u8 0, Value.int IntKind.u8 0, Value.int IntKind.u8 0, Value.int IntKind.u8 0, Value.int IntKind.u8 0, Value.int IntKind.u8 0] 24)).heap[w.heap.size]? = some (.cells #[Value.int IntKind.u8 0, Value.int IntKind.u8 0, Value.int IntKind.u8 0, Value.int IntKind.u8 0, Value.int IntKind.u8 0, Value.int IntKind.u8 0, Value.int IntKind.u8 0, Value.int IntKind.u8 0, Value.int IntKind.u8 0, Value.int IntKind.u8 0, Value.int IntKind.u8 0, Value.int IntKind.u8 0, Value.int IntKind.u8 0, Value.int IntKind.u8 0, Value.int IntKind.u8 0, Value.int IntKind.u8 0, Value.int IntKind.u8 0, Value.int IntKind.u8 0, Value.int IntKind.u8 0, Value.int IntKind.u8 0, Value.int IntKind.u8 0, Value.int IntKind.u8 0, Value.int IntKind.u8 0, Value.int IntKind.u8 0, Value.int IntKind.u8 0, Value.int IntKind.u8 0, Value.int IntKind.u8 0, Value.int IntKind.u8 0, Value.int IntKind.u8 0, Value.int IntKind.u8 0, Value.int IntKind.u8 0, Value.int IntKind.u8 0] 24 (0, 0))) := heap_alloc_new w _
    have HB0 : Hid (Below w.heap.size w (w.alloc (.cells #[Value.int IntKind.u8 0, Value.int IntKind.u8 0, Value.int IntKind.u8 0, Value.int IntKind.u8 0, Value.int IntKind.u8 0, Value.int IntKind.u8 0, Value.int IntKind.u8 0, Value.int IntKind.u8 0, Value.int IntKind.u8 0, Value.int IntKind.u8 0, Value.int IntKind.u8 0, Value.int IntKind.u8 0, Value.int IntKind.u8 0, Value.int IntKind.u8 0, Value.int IntKind.u8 0, Value.int IntKind.u8 0, Value.int IntKind.u8 0, Value.int IntKind.u8 0, Value.int IntKind.u8 0, Value.int IntKind.u8 0, Value.int IntKind.u8 0, Value.int IntKind.u8 0, Value.int IntKind.u8 0, Value.int IntKind.u8 0, Value.int IntKind.u8 0, Value.int IntKind.u8 0, Value.int IntKind.u8 0, Value.int IntKind.u8 0, Value.int IntKind.u8 0, Value.int IntKind.u8 0, Value.int IntKind.u8 0, Value.int IntKind.u8 0] 24))) := bel_alloc w _
    go_wp2_with (refine wpList_store_row rfl 24 (.tmp 10) (.tmp 33) rfl w.heap.size (cellsOf (List.replicate 32 0)).toArray rfl rfl 24 _ HN0.out (by rw [size24]; rfl) rfl (cells_all _) ?_)
    refine bodyPost_ret (results_dig_two rfl _ _ w.heap.size 24 (cellsOf (List.replicate 32 0)).toArray (0, 0) rfl (setRow_heap _ _ _ _ _ _ HN0.out) rfl) rfl ?_
    exact ⟨List.replicate 32 0, 0, false, rfl, HOV.out, below_row HB0.out (Nat.le_refl _) _⟩
  · have hyd : decide (y ≤ 0) = false := decide_eq_false hy
    clear hap
    go_enter Tryd.func70, Tryd.ntmps70
    have HN0 : Hid ((w.alloc (.cells #[Value.int IntKind.u8 0, Value.int IntKind.u8 0, Value.int IntKind.u8 0, Value.int IntKind.u8 0, Value.int IntKind.u8 0, Value.int IntKind.u8 0, Value.int IntKind.u8 0, Value.int IntKind.u8 0, Value.int IntKind.u8 0, Value.int IntKind.u8 0, Value.int IntKind.u8 0, Value.int IntKind.u8 0, Value.int IntKind.u8 0, Value.int IntKind.u8 0, Value.int IntKind.u8 0, Value.int IntKind.u8 0, Value.int IntKind.u8 0, Value.int IntKind.u8 0, Value.int IntKind.u8 0, Value.int IntKind.u8 0, Value.int IntKind.u8 0, Value.int IntKind.u8 0, Value.int IntKind.u8 0, Value.int IntKind.u8 0, Value.int IntKind.u8 0, Value.int IntKind.u8 0, Value.int IntKind.u8 0, Value.int IntKind.u8 0, Value.int IntKind.u8 0, Value.int IntKind.u8 0, Value.int IntKind.u8 0, Value.int IntKind.u8 0] 24)).heap[w.heap.size]? = some (.cells #[Value.int IntKind.u8 0, Value.int IntKind.u8 0, Value.int IntKind.u8 0, Value.int IntKind.u8 0, Value.int IntKind.u8 0, Value.int IntKind.u8 0, Value.int IntKind.u8 0, Value.int IntKind.u8 0, Value.int IntKind.u8 0, Value.int IntKind.u8 0, Value.int IntKind.u8 0, Value.int IntKind.u8 0, Value.int IntKind.u8 0, Value.int IntKind.u8 0, Value.int IntKind.u8 0, Value.int IntKind.u8 0, Value.int IntKind.u8 0, Value.int IntKind.u8 0, Value.int IntKind.u8 0, Value.int IntKind.u8 0, Value.int IntKind.u8 0, Value.int IntKind.u8 0, Value.int IntKind.u8 0, Value.int IntKind.u8 0, Value.int IntKind.u8 0, Value.int IntKind.u8 0, Value.int IntKind.u8 0, Value.int IntKind.u8 0, Value.int IntKind.u8 0, Value.int IntKind.u8 0, Value.int IntKind.u8 0, Value.int IntKind.u8 0] 24 (0, 0))) := heap_alloc_new w _
    have HB0 : Hid (Below w.heap.size w (w.alloc (.cells #[Value.int IntKind.u8 0, Value.int IntKind.u8 0, Value.int IntKind.u8 0, Value.int IntKind.u8 0, Value.int IntKind.u8 0, Value.int IntKind.u8 0, Value.int IntKind.u8 0, Value.int IntKind.u8 0, Value.int IntKind.u8 0, Value.int IntKind.u8 0, Value.int IntKind.u8 0, Value.int IntKind.u8 0, Value.int IntKind.u8 0, Value.int IntKind.u8 0, Value.int IntKind.u8 0, Value.int IntKind.u8 0, Value.int IntKind.u8 0, Value.int IntKind.u8 0, Value.int IntKind.u8 0, Value.int IntKind.u8 0, Value.int IntKind.u8 0, Value.int IntKind.u8 0, Value.int IntKind.u8 0, Value.int IntKind.u8 0, Value.int IntKind.u8 0, Value.int IntKind.u8 0, Value.int IntKind.u8 0, Value.int IntKind.u8 0, Value.int IntKind.u8 0, Value.int IntKind.u8 0, Value.int IntKind.u8 0, Value.int IntKind.u8 0] 24))) := bel_alloc w _
    go_wp2_with (refine wpList_store_row rfl 24 (.tmp 10) (.tmp 33) rfl w.heap.size (cellsOf (List.replicate 32 0)).toArray rfl rfl 24 _ HN0.out (by rw [size24]; rfl) rfl (cells_all _) ?_)
    refine bodyPost_ret (results_dig_two rfl _ _ w.heap.size 24 (cellsOf (List.replicate 32 0)).toArray (0, 0) rfl (setRow_heap _ _ _ _ _ _ HN0.out) rfl) rfl ?_
    exact ⟨List.replicate 32 0, 0, false, rfl, HOV.out, below_row HB0.out (Nat.le_refl _) _⟩
set_option maxRecDepth 100000 in
set_option maxHeartbeats 4000000 in
theorem over_apart_some (z : Int) (ls : List LV) (c d a b : Nat) (n : Nat) (x y : Int) (po : Option Addr) (q pc : Nat) (pb pf L cp : Nat) (g : List UInt8) (ds : List (List UInt8)) (w : World) (hap : b ≤ c ∨ d ≤ a) (hw : wrap64 (x + (q : Int)) = y) (hy : y ≤ 0 ∨ (¬ y ≤ 0 ∧ (n : Int) ≤ x)) (hg : g.length = 32) (hL : 0 < L) (hR : w.rangeAt pb pf (cellsOf g)) :
    Calls Tryd.prog 70 #[.int .i64 z, .int .i64 (n : Int), .int .i64 x, .slice po q pc, .slice (some ⟨pb, pf, none⟩) L cp] w (OvR z ls c d a b (g :: ds) w) := by
  have HOV : Hid (OvV z ls c d a b (g :: ds) g 1 true) := by
    refine ⟨hg, ?_, fun _ => ⟨by rw [outL_apart hap]; rfl, by rw [fill_apart_v z ls _ hap]; rfl⟩⟩
    rw [outL_apart hap]; simp
  have HGL : Hid (g.length = 32) := hg
  have HIG : Hid ((Tryd.prog.info? 24).map (·.size) = some (cellsOf g).length) := by show _ = _; rw [size24, cellsOf_length, hg]
  have HRG : Hid ((w.alloc (.cells #[Value.int IntKind.u8 0, Value.int IntKind.u8 0, Value.int IntKind.u8 0, Value.int IntKind.u8 0, Value.int IntKind.u8 0, Value.int IntKind.u8 0, Value.int IntKind.u8 0, Value.int IntKind.u8 0, Value.int IntKind.u8 0, Value.int IntKind.u8 0, Value.int IntKind.u8 0, Value.int IntKind.u8 0, Value.int IntKind.u8 0, Value.int IntKind.u8 0, Value.int IntKind.u8 0, Value.int IntKind.u8 0, Value.int IntKind.u8 0, Value.int IntKind.u8 0, Value.int IntKind.u8 0, Value.int IntKind.u8 0, Value.int IntKind.u8 0, Value.int IntKind.u8 0, Value.int IntKind.u8 0, Value.int IntKind.u8 0, Value.int IntKind.u8 0, Value.int IntKind.u8 0, Value.int IntKind.u8 0, Value.int IntKind.u8 0, Value.int IntKind.u8 0, Value.int IntKind.u8 0, Value.int IntKind.u8 0, Value.int IntKind.u8 0] 24)).rangeAt pb pf (cellsOf g)) := range_bel hR (bel_alloc w _) (Nat.le_refl _)
  have hLz : ((L : Int) == 0) = false := by simp; omega
  have hL1 : (0 : Int) < (L : Int) := by omega
  have hL2 : 0 < L := hL
  clear hg hR hL
  rcases hy with hy | ⟨hy, hx⟩
  · clear hap
    go_enter Tryd.func70, Tryd.ntmps70
    have HN0 : Hid ((w.alloc (.cells #[Value.int IntKind.u8 0, Value.int IntKind.u8 0, Value.int IntKind.u8 0, Value.int IntKind.u8 0, Value.int IntKind.u8 0, Value.int IntKind.u8 0, Value.int IntKind.u8 0, Value.int IntKind.u8 0, Value.int IntKind.u8 0, Value.int IntKind.u8 0, Value.int IntKind.u8 0, Value.int IntKind.u8 0, Value.int IntKind.u8 0, Value.int IntKind.u8 0, Value.int IntKind.u8 0, Value.int IntKind.u8 0, Value.int IntKind.u8 0, Value.int IntKind.u8 0, Value.int IntKind.u8 0, Value.int IntKind.u8 0, Value.int IntKind.u8 0, Value.int IntKind.u8 0, Value.int IntKind.u8 0, Value.int IntKind.u8 0, Value.int IntKind.u8 0, Value.int IntKind.u8 0, Value.int IntKind.u8 0, Value.int IntKind.u8 0, Value.int IntKind.u8 0, Value.int IntKind.u8 0, Value.int IntKind.u8 0, Value.int IntKind.u8 0] 24)).heap[w.heap.size]? = some (.cells #[Value.int IntKind.u8 0, Value.int IntKind.u8 0, Value.int IntKind.u8 0, Value.int IntKind.u8 0, Value.int IntKind.u8 0, Value.int IntKind.u8 0, Value.int IntKind.u8 0, Value.int IntKind.u8 0, Value.int IntKind.u8 0, Value.int IntKind.u8 0, Value.int IntKind.u8 0, Value.int IntKind.u8 0, Value.int IntKind.u8 0, Value.int IntKind.u8 0, Value.int IntKind.u8 0, Value.int IntKind.u8 0, Value.int IntKind.u8 0, Value.int IntKind.u8 0, Value.int IntKind.u8 0, Value.int IntKind.u8 0, Value.int IntKind.u8 0, Value.int IntKind.u8 0, Value.int IntKind.u8 0, Value.int IntKind.u8 0, Value.int IntKind.u8 0, Value.int IntKind.u8 0, Value.int IntKind.u8 0, Value.int IntKind.u8 0, Value.int IntKind.u8 0, Value.int IntKind.u8 0, Value.int IntKind.u8 0, Value.int IntKind.u8 0] 24 (0, 0))) := heap_alloc_new w _
    have HB0 : Hid (Below w.heap.size w (w.alloc (.cells #[Value.int IntKind.u8 0, Value.int IntKind.u8 0, Value.int IntKind.u8 0, Value.int IntKind.u8 0, Value.int IntKind.u8 0, Value.int IntKind.u8 0, Value.int IntKind.u8 0, Value.int IntKind.u8 0, Value.int IntKind.u8 0, Value.int IntKind.u8 0, Value.int IntKind.u8 0, Value.int IntKind.u8 0, Value.int IntKind.u8 0, Value.int IntKind.u8 0, Value.int IntKind.u8 0, Value.int IntKind.u8 0, Value.int IntKind.u8 0, Value.int IntKind.u8 0, Value.int IntKind.u8 0, Value.int IntKind.u8 0, Value.int IntKind.u8 0, Value.int IntKind.u8 0, Value.int IntKind.u8 0, Value.int IntKind.u8 0, Value.int IntKind.u8 0, Value.int IntKind.u8 0, Value.int IntKind.u8 0, Value.int IntKind.u8 0, Value.int IntKind.u8 0, Value.int IntKind.u8 0, Value.int IntKind.u8 0, Value.int IntKind.u8 0] 24))) := bel_alloc w _
    go_wp2_with (first | (refine wpList_load_mid rfl 24 (.tmp 35) rfl pb pf rfl (cellsOf g) _ HRG.out Tryd.underlying24 rfl HIG.out ?_) | (refine wpList_store_row rfl 24 (.tmp 10) (.tmp 36) rfl w.heap.size (cellsOf g).toArray rfl rfl 24 _ HN0.out (by rw [size24, dig_size HGL.out]) (by rw [dig_size HGL.out]; rfl) (cells_all _) ?_))
    refine bodyPost_ret (results_dig_two rfl _ _ w.heap.size 24 (cellsOf g).toArray (0, 0) rfl (setRow_heap _ _ _ _ _ _ HN0.out) (by rw [dig_size HGL.out])) rfl ?_
    exact ⟨g, 1, true, rfl, HOV.out, below_row HB0.out (Nat.le_refl _) _⟩
  · have hyd : decide (y ≤ 0) = false := decide_eq_false hy
    clear hap
    go_enter Tryd.func70, Tryd.ntmps70
    have HN0 : Hid ((w.alloc (.cells #[Value.int IntKind.u8 0, Value.int IntKind.u8 0, Value.int IntKind.u8 0, Value.int IntKind.u8 0, Value.int IntKind.u8 0, Value.int IntKind.u8 0, Value.int IntKind.u8 0, Value.int IntKind.u8 0, Value.int IntKind.u8 0, Value.int IntKind.u8 0, Value.int IntKind.u8 0, Value.int IntKind.u8 0, Value.int IntKind.u8 0, Value.int IntKind.u8 0, Value.int IntKind.u8 0, Value.int IntKind.u8 0, Value.int IntKind.u8 0, Value.int IntKind.u8 0, Value.int IntKind.u8 0, Value.int IntKind.u8 0, Value.int IntKind.u8 0, Value.int IntKind.u8 0, Value.int IntKind.u8 0, Value.int IntKind.u8 0, Value.int IntKind.u8 0, Value.int IntKind.u8 0, Value.int IntKind.u8 0, Value.int IntKind.u8 0, Value.int IntKind.u8 0, Value.int IntKind.u8 0, Value.int IntKind.u8 0, Value.int IntKind.u8 0] 24)).heap[w.heap.size]? = some (.cells #[Value.int IntKind.u8 0, Value.int IntKind.u8 0, Value.int IntKind.u8 0, Value.int IntKind.u8 0, Value.int IntKind.u8 0, Value.int IntKind.u8 0, Value.int IntKind.u8 0, Value.int IntKind.u8 0, Value.int IntKind.u8 0, Value.int IntKind.u8 0, Value.int IntKind.u8 0, Value.int IntKind.u8 0, Value.int IntKind.u8 0, Value.int IntKind.u8 0, Value.int IntKind.u8 0, Value.int IntKind.u8 0, Value.int IntKind.u8 0, Value.int IntKind.u8 0, Value.int IntKind.u8 0, Value.int IntKind.u8 0, Value.int IntKind.u8 0, Value.int IntKind.u8 0, Value.int IntKind.u8 0, Value.int IntKind.u8 0, Value.int IntKind.u8 0, Value.int IntKind.u8 0, Value.int IntKind.u8 0, Value.int IntKind.u8 0, Value.int IntKind.u8 0, Value.int IntKind.u8 0, Value.int IntKind.u8 0, Value.int IntKind.u8 0] 24 (0, 0))) := heap_alloc_new w _
    have HB0 : Hid (Below w.heap.size w (w.alloc (.cells #[Value.int IntKind.u8 0, Value.int IntKind.u8 0, Value.int IntKind.u8 0, Value.int IntKind.u8 0, Value.int IntKind.u8 0, Value.int IntKind.u8 0, Value.int IntKind.u8 0, Value.int IntKind.u8 0, Value.int IntKind.u8 0, Value.int IntKind.u8 0, Value.int IntKind.u8 0, Value.int IntKind.u8 0, Value.int IntKind.u8 0, Value.int IntKind.u8 0, Value.int IntKind.u8 0, Value.int IntKind.u8 0, Value.int IntKind.u8 0, Value.int IntKind.u8 0, Value.int IntKind.u8 0, Value.int IntKind.u8 0, Value.int IntKind.u8 0, Value.int IntKind.u8 0, Value.int IntKind.u8 0, Value.int IntKind.u8 0, Value.int IntKind.u8 0, Value.int IntKind.u8 0, Value.int IntKind.u8 0, Value.int IntKind.u8 0, Value.int IntKind.u8 0, Value.int IntKind.u8 0, Value.int IntKind.u8 0, Value.int IntKind.u8 0] 24))) := bel_alloc w _
    go_wp2_with (first | (refine wpList_load_mid rfl 24 (.tmp 35) rfl pb pf rfl (cellsOf g) _ HRG.out Tryd.underlying24 rfl HIG.out ?_) | (refine wpList_store_row rfl 24 (.tmp 10) (.tmp 36) rfl w.heap.size (cellsOf g).toArray rfl rfl 24 _ HN0.out (by rw [size24, dig_size HGL.out]) (by rw [dig_size HGL.out]; rfl) (cells_all _) ?_))
    refine bodyPost_ret (results_dig_two rfl _ _ w.heap.size 24 (cellsOf g).toArray (0, 0) rfl (setRow_heap _ _ _ _ _ _ HN0.out) (by rw [dig_size HGL.out])) rfl ?_
    exact ⟨g, 1, true, rfl, HOV.out, below_row HB0.out (Nat.le_refl _) _⟩
set_option maxRecDepth 100000 in
set_option maxHeartbeats 4000000 in
theorem over_leaf (z : Int) (ls : List LV) (c d a : Nat) (x y : Int) (pb pf q pc i : Nat) (s : ByteArray) (v : Value) (ds : List (List UInt8)) (w : World) (hw : wrap64 (x + (q : Int)) = y) (hy : ¬ y ≤ 0) (hx : ¬ (1 : Int) ≤ x) (hneg : wrap64 (-x) = (i : Int)) (hiq : i < q) (hc : w.cell? ⟨pb, pf + i, none⟩ = some (.string s)) (hs : s.size ≤ 1000) (hz : -9223372036854775808 ≤ z ∧ z ≤ 9223372036854775807)
    (HOV : Hid (OvV z ls c d a (a + 1) ds (leafD z (strB s)) 0 true)) :
    Calls Tryd.prog 70 #[.int .i64 z, .int .i64 1, .int .i64 x, .slice (some ⟨pb, pf, none⟩) q pc, v] w (OvR z ls c d a (a + 1) ds w) := by
  have HLF : Hid (∀ W, Calls Tryd.prog 30 #[.int .i64 z, .string s] W fun e w' => e = .returned (dv (leafD z (strB s))) ∧ Below W.heap.size W w') := fun W => refLeaf_any z s W hs hz
  obtain ⟨g, HG⟩ : ∃ g, Hid (leafD z (strB s) = g) := ⟨_, rfl⟩
  have HGL : Hid (g.length = 32) := by show _ = _; rw [← HG.out]; exact leafD_length _ _
  rw [HG.out] at HLF HOV
  have hyd : decide (y ≤ 0) = false := decide_eq_false hy
  have hxd : decide ((1 : Int) ≤ x) = false := decide_eq_false hx
  have hc0 : (w.alloc (.cells #[Value.int IntKind.u8 0, Value.int IntKind.u8 0, Value.int IntKind.u8 0, Value.int IntKind.u8 0, Value.int IntKind.u8 0, Value.int IntKind.u8 0, Value.int IntKind.u8 0, Value.int IntKind.u8 0, Value.int IntKind.u8 0, Value.int IntKind.u8 0, Value.int IntKind.u8 0, Value.int IntKind.u8 0, Value.int IntKind.u8 0, Value.int IntKind.u8 0, Value.int IntKind.u8 0, Value.int IntKind.u8 0, Value.int IntKind.u8 0, Value.int IntKind.u8 0, Value.int IntKind.u8 0, Value.int IntKind.u8 0, Value.int IntKind.u8 0, Value.int IntKind.u8 0, Value.int IntKind.u8 0, Value.int IntKind.u8 0, Value.int IntKind.u8 0, Value.int IntKind.u8 0, Value.int IntKind.u8 0, Value.int IntKind.u8 0, Value.int IntKind.u8 0, Value.int IntKind.u8 0, Value.int IntKind.u8 0, Value.int IntKind.u8 0] 24)).cell? ⟨pb, pf + i, none⟩ = some (.string s) := bel_cell2 (bel_alloc w _) (Nat.le_refl _) hc
  have hiz : (i : Int) < (q : Int) := by omega
  have hi0 : (0 : Int) ≤ (i : Int) := by omega
  clear hs hz hc
  go_enter Tryd.func70, Tryd.ntmps70
  have HN0 : Hid ((w.alloc (.cells #[Value.int IntKind.u8 0, Value.int IntKind.u8 0, Value.int IntKind.u8 0, Value.int IntKind.u8 0, Value.int IntKind.u8 0, Value.int IntKind.u8 0, Value.int IntKind.u8 0, Value.int IntKind.u8 0, Value.int IntKind.u8 0, Value.int IntKind.u8 0, Value.int IntKind.u8 0, Value.int IntKind.u8 0, Value.int IntKind.u8 0, Value.int IntKind.u8 0, Value.int IntKind.u8 0, Value.int IntKind.u8 0, Value.int IntKind.u8 0, Value.int IntKind.u8 0, Value.int IntKind.u8 0, Value.int IntKind.u8 0, Value.int IntKind.u8 0, Value.int IntKind.u8 0, Value.int IntKind.u8 0, Value.int IntKind.u8 0, Value.int IntKind.u8 0, Value.int IntKind.u8 0, Value.int IntKind.u8 0, Value.int IntKind.u8 0, Value.int IntKind.u8 0, Value.int IntKind.u8 0, Value.int IntKind.u8 0, Value.int IntKind.u8 0] 24)).heap[w.heap.size]? = some (.cells #[Value.int IntKind.u8 0, Value.int IntKind.u8 0, Value.int IntKind.u8 0, Value.int IntKind.u8 0, Value.int IntKind.u8 0, Value.int IntKind.u8 0, Value.int IntKind.u8 0, Value.int IntKind.u8 0, Value.int IntKind.u8 0, Value.int IntKind.u8 0, Value.int IntKind.u8 0, Value.int IntKind.u8 0, Value.int IntKind.u8 0, Value.int IntKind.u8 0, Value.int IntKind.u8 0, Value.int IntKind.u8 0, Value.int IntKind.u8 0, Value.int IntKind.u8 0, Value.int IntKind.u8 0, Value.int IntKind.u8 0, Value.int IntKind.u8 0, Value.int IntKind.u8 0, Value.int IntKind.u8 0, Value.int IntKind.u8 0, Value.int IntKind.u8 0, Value.int IntKind.u8 0, Value.int IntKind.u8 0, Value.int IntKind.u8 0, Value.int IntKind.u8 0, Value.int IntKind.u8 0, Value.int IntKind.u8 0, Value.int IntKind.u8 0] 24 (0, 0))) := heap_alloc_new w _
  have HB0 : Hid (Below w.heap.size w (w.alloc (.cells #[Value.int IntKind.u8 0, Value.int IntKind.u8 0, Value.int IntKind.u8 0, Value.int IntKind.u8 0, Value.int IntKind.u8 0, Value.int IntKind.u8 0, Value.int IntKind.u8 0, Value.int IntKind.u8 0, Value.int IntKind.u8 0, Value.int IntKind.u8 0, Value.int IntKind.u8 0, Value.int IntKind.u8 0, Value.int IntKind.u8 0, Value.int IntKind.u8 0, Value.int IntKind.u8 0, Value.int IntKind.u8 0, Value.int IntKind.u8 0, Value.int IntKind.u8 0, Value.int IntKind.u8 0, Value.int IntKind.u8 0, Value.int IntKind.u8 0, Value.int IntKind.u8 0, Value.int IntKind.u8 0, Value.int IntKind.u8 0, Value.int IntKind.u8 0, Value.int IntKind.u8 0, Value.int IntKind.u8 0, Value.int IntKind.u8 0, Value.int IntKind.u8 0, Value.int IntKind.u8 0, Value.int IntKind.u8 0, Value.int IntKind.u8 0] 24))) := bel_alloc w _
  go_wp2_with fail
  obtain ⟨W0, HW0⟩ : ∃ W, Hid (w.alloc (.cells #[Value.int IntKind.u8 0, Value.int IntKind.u8 0, Value.int IntKind.u8 0, Value.int IntKind.u8 0, Value.int IntKind.u8 0, Value.int IntKind.u8 0, Value.int IntKind.u8 0, Value.int IntKind.u8 0, Value.int IntKind.u8 0, Value.int IntKind.u8 0, Value.int IntKind.u8 0, Value.int IntKind.u8 0, Value.int IntKind.u8 0, Value.int IntKind.u8 0, Value.int IntKind.u8 0, Value.int IntKind.u8 0, Value.int IntKind.u8 0, Value.int IntKind.u8 0, Value.int IntKind.u8 0, Value.int IntKind.u8 0, Value.int IntKind.u8 0, Value.int IntKind.u8 0, Value.int IntKind.u8 0, Value.int IntKind.u8 0, Value.int IntKind.u8 0, Value.int IntKind.u8 0, Value.int IntKind.u8 0, Value.int IntKind.u8 0, Value.int IntKind.u8 0, Value.int IntKind.u8 0, Value.int IntKind.u8 0, Value.int IntKind.u8 0] 24) = W) := ⟨_, rfl⟩
  rw [HW0.out] at HN0 HB0 ⊢
  refine (HLF.out _).mono ?_
  rintro e w2 ⟨rfl, hb2⟩
  have HN2 : Hid (w2.heap[w.heap.size]? = some (.cells #[Value.int IntKind.u8 0, Value.int IntKind.u8 0, Value.int IntKind.u8 0, Value.int IntKind.u8 0, Value.int IntKind.u8 0, Value.int IntKind.u8 0, Value.int IntKind.u8 0, Value.int IntKind.u8 0, Value.int IntKind.u8 0, Value.int IntKind.u8 0, Value.int IntKind.u8 0, Value.int IntKind.u8 0, Value.int IntKind.u8 0, Value.int IntKind.u8 0, Value.int IntKind.u8 0, Value.int IntKind.u8 0, Value.int IntKind.u8 0, Value.int IntKind.u8 0, Value.int IntKind.u8 0, Value.int IntKind.u8 0, Value.int IntKind.u8 0, Value.int IntKind.u8 0, Value.int IntKind.u8 0, Value.int IntKind.u8 0, Value.int IntKind.u8 0, Value.int IntKind.u8 0, Value.int IntKind.u8 0, Value.int IntKind.u8 0, Value.int IntKind.u8 0, Value.int IntKind.u8 0, Value.int IntKind.u8 0, Value.int IntKind.u8 0] 24 (0, 0))) := (hb2.block _ (Array.getElem?_eq_some_iff.1 HN0.out).1).trans HN0.out
  have HB2 : Hid (Below w.heap.size w w2) := HB0.out.trans (hb2.mono HB0.out.size)
  clear hb2 hc0
  unfold dv
  go_wp2_with (refine wpList_store_row rfl 24 (.tmp 10) (.tmp 45) rfl w.heap.size (cellsOf g).toArray rfl rfl 24 _ HN2.out (by rw [size24, dig_size HGL.out]) (by rw [dig_size HGL.out]; rfl) (cells_all _) ?_)
  refine bodyPost_ret (results_dig_two rfl _ _ w.heap.size 24 (cellsOf g).toArray (0, 0) rfl (setRow_heap _ _ _ _ _ _ HN2.out) (by rw [dig_size HGL.out])) rfl ?_
  exact ⟨g, 0, true, rfl, HOV.out, below_row HB2.out (Nat.le_refl _) _⟩
end Go.Proofs.YtaebpnednhkfhaaDoor
namespace Go.Proofs.YtaebpnednhkfhaaDoor
open Go.RowKit
set_option maxRecDepth 100000 in
set_option maxHeartbeats 4000000 in
theorem over_no (z : Int) (ls : List LV) (c d a b n : Nat) (x y : Int) (po : Option Addr) (q pc : Nat) (ao : Option Addr) (L cp : Nat) (ds : List (List UInt8)) (w : World) (h2 : 2 ≤ n) (hn : n ≤ 9223372036854775807) (hw : wrap64 (x + (q : Int)) = y) (hy : ¬ y ≤ 0) (hx : ¬ (n : Int) ≤ x)
    (hlt : ¬ (outL a (a + halfN n) c d).length ≤ ds.length) (hlt2 : ¬ (outL a b c d).length ≤ ds.length)
    (HA : Hid (∀ W, Below w.heap.size w W → Calls Tryd.prog 70 #[.int .i64 z, .int .i64 ((halfN n : Nat) : Int), .int .i64 x, .slice po q pc, .slice ao L cp] W (OvR z ls c d a (a + halfN n) ds W))) :
    Calls Tryd.prog 70 #[.int .i64 z, .int .i64 (n : Int), .int .i64 x, .slice po q pc, .slice ao L cp] w (OvR z ls c d a b ds w) := by
  have HHF : Hid (∀ W, Calls Tryd.prog 61 #[.int .i64 (n : Int)] W fun e w' => e = .returned (.int .i64 ((halfN n : Nat) : Int)) ∧ w' = W) := fun W => refHalf_any n W h2 hn
  obtain ⟨s1, s2, -⟩ := halfN_spec n h2 hn
  have hyd : decide (y ≤ 0) = false := decide_eq_false hy
  have hxd : decide ((n : Int) ≤ x) = false := decide_eq_false hx
  have y1 : ((n : Int) == 1) = false := by simp; omega
  have HOV : Hid (OvV z ls c d a b ds (List.replicate 32 0) 0 false) := ⟨by simp, (decide_eq_false hlt2).symm, fun h => by cases h⟩
  have HLT : Hid (¬ (outL a (a + halfN n) c d).length ≤ ds.length) := hlt
  obtain ⟨k, HK⟩ : ∃ k, Hid (halfN n = k) := ⟨_, rfl⟩
  rw [HK.out] at HHF HA HLT s1 s2
  clear h2 hn hlt hlt2 s1 s2
  go_enter Tryd.func70, Tryd.ntmps70
  have HN0 : Hid ((w.alloc (.cells #[Value.int IntKind.u8 0, Value.int IntKind.u8 0, Value.int IntKind.u8 0, Value.int IntKind.u8 0, Value.int IntKind.u8 0, Value.int IntKind.u8 0, Value.int IntKind.u8 0, Value.int IntKind.u8 0, Value.int IntKind.u8 0, Value.int IntKind.u8 0, Value.int IntKind.u8 0, Value.int IntKind.u8 0, Value.int IntKind.u8 0, Value.int IntKind.u8 0, Value.int IntKind.u8 0, Value.int IntKind.u8 0, Value.int IntKind.u8 0, Value.int IntKind.u8 0, Value.int IntKind.u8 0, Value.int IntKind.u8 0, Value.int IntKind.u8 0, Value.int IntKind.u8 0, Value.int IntKind.u8 0, Value.int IntKind.u8 0, Value.int IntKind.u8 0, Value.int IntKind.u8 0, Value.int IntKind.u8 0, Value.int IntKind.u8 0, Value.int IntKind.u8 0, Value.int IntKind.u8 0, Value.int IntKind.u8 0, Value.int IntKind.u8 0] 24)).heap[w.heap.size]? = some (.cells #[Value.int IntKind.u8 0, Value.int IntKind.u8 0, Value.int IntKind.u8 0, Value.int IntKind.u8 0, Value.int IntKind.u8 0, Value.int IntKind.u8 0, Value.int IntKind.u8 0, Value.int IntKind.u8 0, Value.int IntKind.u8 0, Value.int IntKind.u8 0, Value.int IntKind.u8 0, Value.int IntKind.u8 0, Value.int IntKind.u8 0, Value.int IntKind.u8 0, Value.int IntKind.u8 0, Value.int IntKind.u8 0, Value.int IntKind.u8 0, Value.int IntKind.u8 0, Value.int IntKind.u8 0, Value.int IntKind.u8 0, Value.int IntKind.u8 0, Value.int IntKind.u8 0, Value.int IntKind.u8 0, Value.int IntKind.u8 0, Value.int IntKind.u8 0, Value.int IntKind.u8 0, Value.int IntKind.u8 0, Value.int IntKind.u8 0, Value.int IntKind.u8 0, Value.int IntKind.u8 0, Value.int IntKind.u8 0, Value.int IntKind.u8 0] 24 (0, 0))) := heap_alloc_new w _
  have HB0 : Hid (Below w.heap.size w (w.alloc (.cells #[Value.int IntKind.u8 0, Value.int IntKind.u8 0, Value.int IntKind.u8 0, Value.int IntKind.u8 0, Value.int IntKind.u8 0, Value.int IntKind.u8 0, Value.int IntKind.u8 0, Value.int IntKind.u8 0, Value.int IntKind.u8 0, Value.int IntKind.u8 0, Value.int IntKind.u8 0, Value.int IntKind.u8 0, Value.int IntKind.u8 0, Value.int IntKind.u8 0, Value.int IntKind.u8 0, Value.int IntKind.u8 0, Value.int IntKind.u8 0, Value.int IntKind.u8 0, Value.int IntKind.u8 0, Value.int IntKind.u8 0, Value.int IntKind.u8 0, Value.int IntKind.u8 0, Value.int IntKind.u8 0, Value.int IntKind.u8 0, Value.int IntKind.u8 0, Value.int IntKind.u8 0, Value.int IntKind.u8 0, Value.int IntKind.u8 0, Value.int IntKind.u8 0, Value.int IntKind.u8 0, Value.int IntKind.u8 0, Value.int IntKind.u8 0] 24))) := bel_alloc w _
  go_wp2_with fail
  obtain ⟨W0, HW0⟩ : ∃ W, Hid (w.alloc (.cells #[Value.int IntKind.u8 0, Value.int IntKind.u8 0, Value.int IntKind.u8 0, Value.int IntKind.u8 0, Value.int IntKind.u8 0, Value.int IntKind.u8 0, Value.int IntKind.u8 0, Value.int IntKind.u8 0, Value.int IntKind.u8 0, Value.int IntKind.u8 0, Value.int IntKind.u8 0, Value.int IntKind.u8 0, Value.int IntKind.u8 0, Value.int IntKind.u8 0, Value.int IntKind.u8 0, Value.int IntKind.u8 0, Value.int IntKind.u8 0, Value.int IntKind.u8 0, Value.int IntKind.u8 0, Value.int IntKind.u8 0, Value.int IntKind.u8 0, Value.int IntKind.u8 0, Value.int IntKind.u8 0, Value.int IntKind.u8 0, Value.int IntKind.u8 0, Value.int IntKind.u8 0, Value.int IntKind.u8 0, Value.int IntKind.u8 0, Value.int IntKind.u8 0, Value.int IntKind.u8 0, Value.int IntKind.u8 0, Value.int IntKind.u8 0] 24) = W) := ⟨_, rfl⟩
  rw [HW0.out] at HN0 HB0 ⊢
  clear HW0 hyd hxd y1 hw hy hx
  refine (HHF.out _).mono ?_
  rintro e wx ⟨rfl, hwx⟩
  rw [hwx]
  clear hwx wx
  go_wp2_with fail
  refine (HA.out _ HB0.out).mono ?_
  rintro e w1 ⟨g, u, ok, rfl, hov, hb1⟩
  have hok : ok = false := by rw [hov.2.1]; exact decide_eq_false HLT.out
  subst hok
  have HGL : Hid (g.length = 32) := hov.1
  have HN1 : Hid (w1.heap[w.heap.size]? = some (.cells #[Value.int IntKind.u8 0, Value.int IntKind.u8 0, Value.int IntKind.u8 0, Value.int IntKind.u8 0, Value.int IntKind.u8 0, Value.int IntKind.u8 0, Value.int IntKind.u8 0, Value.int IntKind.u8 0, Value.int IntKind.u8 0, Value.int IntKind.u8 0, Value.int IntKind.u8 0, Value.int IntKind.u8 0, Value.int IntKind.u8 0, Value.int IntKind.u8 0, Value.int IntKind.u8 0, Value.int IntKind.u8 0, Value.int IntKind.u8 0, Value.int IntKind.u8 0, Value.int IntKind.u8 0, Value.int IntKind.u8 0, Value.int IntKind.u8 0, Value.int IntKind.u8 0, Value.int IntKind.u8 0, Value.int IntKind.u8 0, Value.int IntKind.u8 0, Value.int IntKind.u8 0, Value.int IntKind.u8 0, Value.int IntKind.u8 0, Value.int IntKind.u8 0, Value.int IntKind.u8 0, Value.int IntKind.u8 0, Value.int IntKind.u8 0] 24 (0, 0))) := (hb1.block _ (Array.getElem?_eq_some_iff.1 HN0.out).1).trans HN0.out
  have HB1 : Hid (Below w.heap.size w w1) := HB0.out.trans (hb1.mono HB0.out.size)
  have HS1 : Hid (w.heap.size < w1.heap.size) := (Array.getElem?_eq_some_iff.1 HN1.out).1
  clear hov hb1
  unfold dv
  have HN2 : Hid ((w1.alloc (.cells #[Value.int IntKind.u8 0, Value.int IntKind.u8 0, Value.int IntKind.u8 0, Value.int IntKind.u8 0, Value.int IntKind.u8 0, Value.int IntKind.u8 0, Value.int IntKind.u8 0, Value.int IntKind.u8 0, Value.int IntKind.u8 0, Value.int IntKind.u8 0, Value.int IntKind.u8 0, Value.int IntKind.u8 0, Value.int IntKind.u8 0, Value.int IntKind.u8 0, Value.int IntKind.u8 0, Value.int IntKind.u8 0, Value.int IntKind.u8 0, Value.int IntKind.u8 0, Value.int IntKind.u8 0, Value.int IntKind.u8 0, Value.int IntKind.u8 0, Value.int IntKind.u8 0, Value.int IntKind.u8 0, Value.int IntKind.u8 0, Value.int IntKind.u8 0, Value.int IntKind.u8 0, Value.int IntKind.u8 0, Value.int IntKind.u8 0, Value.int IntKind.u8 0, Value.int IntKind.u8 0, Value.int IntKind.u8 0, Value.int IntKind.u8 0] 24)).heap[w1.heap.size]? = some (.cells #[Value.int IntKind.u8 0, Value.int IntKind.u8 0, Value.int IntKind.u8 0, Value.int IntKind.u8 0, Value.int IntKind.u8 0, Value.int IntKind.u8 0, Value.int IntKind.u8 0, Value.int IntKind.u8 0, Value.int IntKind.u8 0, Value.int IntKind.u8 0, Value.int IntKind.u8 0, Value.int IntKind.u8 0, Value.int IntKind.u8 0, Value.int IntKind.u8 0, Value.int IntKind.u8 0, Value.int IntKind.u8 0, Value.int IntKind.u8 0, Value.int IntKind.u8 0, Value.int IntKind.u8 0, Value.int IntKind.u8 0, Value.int IntKind.u8 0, Value.int IntKind.u8 0, Value.int IntKind.u8 0, Value.int IntKind.u8 0, Value.int IntKind.u8 0, Value.int IntKind.u8 0, Value.int IntKind.u8 0, Value.int IntKind.u8 0, Value.int IntKind.u8 0, Value.int IntKind.u8 0, Value.int IntKind.u8 0, Value.int IntKind.u8 0] 24 (0, 0))) := heap_alloc_new w1 _
  go_upto_region 9 with (refine wpList_store_row rfl 24 (.tmp 14) (.tmp 55) rfl w1.heap.size (cellsOf g).toArray rfl rfl 24 _ HN2.out (by rw [size24, dig_size HGL.out]) (by rw [dig_size HGL.out]; rfl) (cells_all _) ?_)
  have HB2 : Below w1.heap.size w1 ((w1.alloc (.cells #[Value.int IntKind.u8 0, Value.int IntKind.u8 0, Value.int IntKind.u8 0, Value.int IntKind.u8 0, Value.int IntKind.u8 0, Value.int IntKind.u8 0, Value.int IntKind.u8 0, Value.int IntKind.u8 0, Value.int IntKind.u8 0, Value.int IntKind.u8 0, Value.int IntKind.u8 0, Value.int IntKind.u8 0, Value.int IntKind.u8 0, Value.int IntKind.u8 0, Value.int IntKind.u8 0, Value.int IntKind.u8 0, Value.int IntKind.u8 0, Value.int IntKind.u8 0, Value.int IntKind.u8 0, Value.int IntKind.u8 0, Value.int IntKind.u8 0, Value.int IntKind.u8 0, Value.int IntKind.u8 0, Value.int IntKind.u8 0, Value.int IntKind.u8 0, Value.int IntKind.u8 0, Value.int IntKind.u8 0, Value.int IntKind.u8 0, Value.int IntKind.u8 0, Value.int IntKind.u8 0, Value.int IntKind.u8 0, Value.int IntKind.u8 0] 24)).setRow w1.heap.size (cellsOf g).toArray) := below_row (bel_alloc w1 _) (Nat.le_refl _) _
  obtain ⟨w2, HW2⟩ : ∃ W, Hid ((w1.alloc (.cells #[Value.int IntKind.u8 0, Value.int IntKind.u8 0, Value.int IntKind.u8 0, Value.int IntKind.u8 0, Value.int IntKind.u8 0, Value.int IntKind.u8 0, Value.int IntKind.u8 0, Value.int IntKind.u8 0, Value.int IntKind.u8 0, Value.int IntKind.u8 0, Value.int IntKind.u8 0, Value.int IntKind.u8 0, Value.int IntKind.u8 0, Value.int IntKind.u8 0, Value.int IntKind.u8 0, Value.int IntKind.u8 0, Value.int IntKind.u8 0, Value.int IntKind.u8 0, Value.int IntKind.u8 0, Value.int IntKind.u8 0, Value.int IntKind.u8 0, Value.int IntKind.u8 0, Value.int IntKind.u8 0, Value.int IntKind.u8 0, Value.int IntKind.u8 0, Value.int IntKind.u8 0, Value.int IntKind.u8 0, Value.int IntKind.u8 0, Value.int IntKind.u8 0, Value.int IntKind.u8 0, Value.int IntKind.u8 0, Value.int IntKind.u8 0] 24)).setRow w1.heap.size (cellsOf g).toArray = W) := ⟨_, rfl⟩
  rw [HW2.out] at HB2 ⊢
  have HN3 : Hid (w2.heap[w.heap.size]? = some (.cells #[Value.int IntKind.u8 0, Value.int IntKind.u8 0, Value.int IntKind.u8 0, Value.int IntKind.u8 0, Value.int IntKind.u8 0, Value.int IntKind.u8 0, Value.int IntKind.u8 0, Value.int IntKind.u8 0, Value.int IntKind.u8 0, Value.int IntKind.u8 0, Value.int IntKind.u8 0, Value.int IntKind.u8 0, Value.int IntKind.u8 0, Value.int IntKind.u8 0, Value.int IntKind.u8 0, Value.int IntKind.u8 0, Value.int IntKind.u8 0, Value.int IntKind.u8 0, Value.int IntKind.u8 0, Value.int IntKind.u8 0, Value.int IntKind.u8 0, Value.int IntKind.u8 0, Value.int IntKind.u8 0, Value.int IntKind.u8 0, Value.int IntKind.u8 0, Value.int IntKind.u8 0, Value.int IntKind.u8 0, Value.int IntKind.u8 0, Value.int IntKind.u8 0, Value.int IntKind.u8 0, Value.int IntKind.u8 0, Value.int IntKind.u8 0] 24 (0, 0))) := (HB2.block _ HS1.out).trans HN1.out
  have HBW : Hid (Below w.heap.size w w2) := HB1.out.trans (HB2.mono HB1.out.size)
  clear HW2 HN2 HB2
  go_wp2_with (refine wpList_store_row rfl 24 (.tmp 10) (.tmp 60) rfl w.heap.size (cellsOf (List.replicate 32 0)).toArray rfl rfl 24 _ HN3.out (by rw [size24]; rfl) rfl (cells_all _) ?_)
  refine bodyPost_ret (results_dig_two rfl _ _ w.heap.size 24 (cellsOf (List.replicate 32 0)).toArray (0, 0) rfl (setRow_heap _ _ _ _ _ _ HN3.out) rfl) rfl ?_
  exact ⟨List.replicate 32 0, 0, false, rfl, HOV.out, below_row HBW.out (Nat.le_refl _) _⟩
set_option maxRecDepth 100000 in
set_option maxHeartbeats 4000000 in
theorem over_two_none (z : Int) (ls : List LV) (c d a b n : Nat) (x y : Int) (po : Option Addr) (q pc : Nat)  (U : Nat) (FL : List UInt8) (ds : List (List UInt8)) (w : World) (h2 : 2 ≤ n) (hn : n ≤ 9223372036854775807) (hw : wrap64 (x + (q : Int)) = y) (hy : ¬ y ≤ 0) (hx : ¬ (n : Int) ≤ x) (hU : U = 0) (hz : -9223372036854775808 ≤ z ∧ z ≤ 9223372036854775807) (x2 : Int) (hx2 : wrap64 (x - ((halfN n : Nat) : Int)) = x2)
    (hleft : ∀ g u ok, OvV z ls c d a (a + halfN n) ds g u ok → ok = true ∧ u = (U : Int) ∧ g = FL) (hFL : FL.length = 32)
    (hres : ∀ g u ok, OvV z ls c d (a + halfN n) b (ds.drop U) g u ok → OvV z ls c d a b ds (nodeD z FL g) (wrap64 ((U : Int) + u)) ok)
    (HA : Hid (∀ W, Below w.heap.size w W → Calls Tryd.prog 70 #[.int .i64 z, .int .i64 ((halfN n : Nat) : Int), .int .i64 x, .slice po q pc, .slice none 0 0] W (OvR z ls c d a (a + halfN n) ds W)))
    (HB : Hid (∀ W, Below w.heap.size w W → Calls Tryd.prog 70 #[.int .i64 z, .int .i64 ((n - halfN n : Nat) : Int), .int .i64 x2, .slice po q pc, .slice none 0 0] W (OvR z ls c d (a + halfN n) b (ds.drop U) W))) :
    Calls Tryd.prog 70 #[.int .i64 z, .int .i64 (n : Int), .int .i64 x, .slice po q pc, .slice none 0 0] w (OvR z ls c d a b ds w) := by
  have HHF : Hid (∀ W, Calls Tryd.prog 61 #[.int .i64 (n : Int)] W fun e w' => e = .returned (.int .i64 ((halfN n : Nat) : Int)) ∧ w' = W) := fun W => refHalf_any n W h2 hn
  obtain ⟨s1, s2, -⟩ := halfN_spec n h2 hn
  have hyd : decide (y ≤ 0) = false := decide_eq_false hy
  have hxd : decide ((n : Int) ≤ x) = false := decide_eq_false hx
  have y1 : ((n : Int) == 1) = false := by simp; omega
  have HWN : Hid (wrap64 ((n : Int) - ((halfN n : Nat) : Int)) = ((n - halfN n : Nat) : Int)) := wsub (Nat.le_of_lt s2) hn
  have HWX : Hid (wrap64 (x - ((halfN n : Nat) : Int)) = x2) := hx2
  have HLE : Hid (∀ g u ok, OvV z ls c d a (a + halfN n) ds g u ok → ok = true ∧ u = (U : Int) ∧ g = FL) := hleft
  have HRE : Hid (∀ g u ok, OvV z ls c d (a + halfN n) b (ds.drop U) g u ok → OvV z ls c d a b ds (nodeD z FL g) (wrap64 ((U : Int) + u)) ok) := hres
  have HNG : Hid (∀ (g : List UInt8) W, g.length = 32 → Calls Tryd.prog 27 #[.int .i64 z, .agg (cellsOf FL).toArray, .agg (cellsOf g).toArray] W fun e w' => e = .returned (dv (nodeD z FL g)) ∧ Below W.heap.size W w') := fun g W hg => refNode_any z FL g W hFL hg hz
  have HFL : Hid (FL.length = 32) := hFL
  have HIF : Hid ((Tryd.prog.info? 24).map (·.size) = some (cellsOf FL).toArray.size) := by show _ = _; rw [size24, dig_size hFL]
  obtain ⟨k, HK⟩ : ∃ k, Hid (halfN n = k) := ⟨_, rfl⟩
  rw [HK.out] at HHF HA HB HLE HRE HWN HWX s1 s2
  subst hU
  clear h2 hn s1 s2 hz hx2 hleft hres hFL
  go_enter Tryd.func70, Tryd.ntmps70
  have HN0 : Hid ((w.alloc (.cells #[Value.int IntKind.u8 0, Value.int IntKind.u8 0, Value.int IntKind.u8 0, Value.int IntKind.u8 0, Value.int IntKind.u8 0, Value.int IntKind.u8 0, Value.int IntKind.u8 0, Value.int IntKind.u8 0, Value.int IntKind.u8 0, Value.int IntKind.u8 0, Value.int IntKind.u8 0, Value.int IntKind.u8 0, Value.int IntKind.u8 0, Value.int IntKind.u8 0, Value.int IntKind.u8 0, Value.int IntKind.u8 0, Value.int IntKind.u8 0, Value.int IntKind.u8 0, Value.int IntKind.u8 0, Value.int IntKind.u8 0, Value.int IntKind.u8 0, Value.int IntKind.u8 0, Value.int IntKind.u8 0, Value.int IntKind.u8 0, Value.int IntKind.u8 0, Value.int IntKind.u8 0, Value.int IntKind.u8 0, Value.int IntKind.u8 0, Value.int IntKind.u8 0, Value.int IntKind.u8 0, Value.int IntKind.u8 0, Value.int IntKind.u8 0] 24)).heap[w.heap.size]? = some (.cells #[Value.int IntKind.u8 0, Value.int IntKind.u8 0, Value.int IntKind.u8 0, Value.int IntKind.u8 0, Value.int IntKind.u8 0, Value.int IntKind.u8 0, Value.int IntKind.u8 0, Value.int IntKind.u8 0, Value.int IntKind.u8 0, Value.int IntKind.u8 0, Value.int IntKind.u8 0, Value.int IntKind.u8 0, Value.int IntKind.u8 0, Value.int IntKind.u8 0, Value.int IntKind.u8 0, Value.int IntKind.u8 0, Value.int IntKind.u8 0, Value.int IntKind.u8 0, Value.int IntKind.u8 0, Value.int IntKind.u8 0, Value.int IntKind.u8 0, Value.int IntKind.u8 0, Value.int IntKind.u8 0, Value.int IntKind.u8 0, Value.int IntKind.u8 0, Value.int IntKind.u8 0, Value.int IntKind.u8 0, Value.int IntKind.u8 0, Value.int IntKind.u8 0, Value.int IntKind.u8 0, Value.int IntKind.u8 0, Value.int IntKind.u8 0] 24 (0, 0))) := heap_alloc_new w _
  have HB0 : Hid (Below w.heap.size w (w.alloc (.cells #[Value.int IntKind.u8 0, Value.int IntKind.u8 0, Value.int IntKind.u8 0, Value.int IntKind.u8 0, Value.int IntKind.u8 0, Value.int IntKind.u8 0, Value.int IntKind.u8 0, Value.int IntKind.u8 0, Value.int IntKind.u8 0, Value.int IntKind.u8 0, Value.int IntKind.u8 0, Value.int IntKind.u8 0, Value.int IntKind.u8 0, Value.int IntKind.u8 0, Value.int IntKind.u8 0, Value.int IntKind.u8 0, Value.int IntKind.u8 0, Value.int IntKind.u8 0, Value.int IntKind.u8 0, Value.int IntKind.u8 0, Value.int IntKind.u8 0, Value.int IntKind.u8 0, Value.int IntKind.u8 0, Value.int IntKind.u8 0, Value.int IntKind.u8 0, Value.int IntKind.u8 0, Value.int IntKind.u8 0, Value.int IntKind.u8 0, Value.int IntKind.u8 0, Value.int IntKind.u8 0, Value.int IntKind.u8 0, Value.int IntKind.u8 0] 24))) := bel_alloc w _
  go_wp2_with fail
  obtain ⟨W0, HW0⟩ : ∃ W, Hid (w.alloc (.cells #[Value.int IntKind.u8 0, Value.int IntKind.u8 0, Value.int IntKind.u8 0, Value.int IntKind.u8 0, Value.int IntKind.u8 0, Value.int IntKind.u8 0, Value.int IntKind.u8 0, Value.int IntKind.u8 0, Value.int IntKind.u8 0, Value.int IntKind.u8 0, Value.int IntKind.u8 0, Value.int IntKind.u8 0, Value.int IntKind.u8 0, Value.int IntKind.u8 0, Value.int IntKind.u8 0, Value.int IntKind.u8 0, Value.int IntKind.u8 0, Value.int IntKind.u8 0, Value.int IntKind.u8 0, Value.int IntKind.u8 0, Value.int IntKind.u8 0, Value.int IntKind.u8 0, Value.int IntKind.u8 0, Value.int IntKind.u8 0, Value.int IntKind.u8 0, Value.int IntKind.u8 0, Value.int IntKind.u8 0, Value.int IntKind.u8 0, Value.int IntKind.u8 0, Value.int IntKind.u8 0, Value.int IntKind.u8 0, Value.int IntKind.u8 0] 24) = W) := ⟨_, rfl⟩
  rw [HW0.out] at HN0 HB0 ⊢
  clear HW0 hyd hxd y1 hw hy hx
  refine (HHF.out _).mono ?_
  rintro e wx ⟨rfl, hwx⟩
  rw [hwx]
  clear hwx wx
  go_wp2_with fail
  refine (HA.out _ HB0.out).mono ?_
  rintro e w1 ⟨g, u, ok, rfl, hov, hb1⟩
  obtain ⟨hok, hu, hg⟩ := HLE.out g u ok hov
  subst hok hu hg
  have HN1 : Hid (w1.heap[w.heap.size]? = some (.cells #[Value.int IntKind.u8 0, Value.int IntKind.u8 0, Value.int IntKind.u8 0, Value.int IntKind.u8 0, Value.int IntKind.u8 0, Value.int IntKind.u8 0, Value.int IntKind.u8 0, Value.int IntKind.u8 0, Value.int IntKind.u8 0, Value.int IntKind.u8 0, Value.int IntKind.u8 0, Value.int IntKind.u8 0, Value.int IntKind.u8 0, Value.int IntKind.u8 0, Value.int IntKind.u8 0, Value.int IntKind.u8 0, Value.int IntKind.u8 0, Value.int IntKind.u8 0, Value.int IntKind.u8 0, Value.int IntKind.u8 0, Value.int IntKind.u8 0, Value.int IntKind.u8 0, Value.int IntKind.u8 0, Value.int IntKind.u8 0, Value.int IntKind.u8 0, Value.int IntKind.u8 0, Value.int IntKind.u8 0, Value.int IntKind.u8 0, Value.int IntKind.u8 0, Value.int IntKind.u8 0, Value.int IntKind.u8 0, Value.int IntKind.u8 0] 24 (0, 0))) := (hb1.block _ (Array.getElem?_eq_some_iff.1 HN0.out).1).trans HN0.out
  have HB1 : Hid (Below w.heap.size w w1) := HB0.out.trans (hb1.mono HB0.out.size)
  have HS1 : Hid (w.heap.size < w1.heap.size) := (Array.getElem?_eq_some_iff.1 HN1.out).1
  clear hov hb1
  unfold dv
  have HN2 : Hid ((w1.alloc (.cells #[Value.int IntKind.u8 0, Value.int IntKind.u8 0, Value.int IntKind.u8 0, Value.int IntKind.u8 0, Value.int IntKind.u8 0, Value.int IntKind.u8 0, Value.int IntKind.u8 0, Value.int IntKind.u8 0, Value.int IntKind.u8 0, Value.int IntKind.u8 0, Value.int IntKind.u8 0, Value.int IntKind.u8 0, Value.int IntKind.u8 0, Value.int IntKind.u8 0, Value.int IntKind.u8 0, Value.int IntKind.u8 0, Value.int IntKind.u8 0, Value.int IntKind.u8 0, Value.int IntKind.u8 0, Value.int IntKind.u8 0, Value.int IntKind.u8 0, Value.int IntKind.u8 0, Value.int IntKind.u8 0, Value.int IntKind.u8 0, Value.int IntKind.u8 0, Value.int IntKind.u8 0, Value.int IntKind.u8 0, Value.int IntKind.u8 0, Value.int IntKind.u8 0, Value.int IntKind.u8 0, Value.int IntKind.u8 0, Value.int IntKind.u8 0] 24)).heap[w1.heap.size]? = some (.cells #[Value.int IntKind.u8 0, Value.int IntKind.u8 0, Value.int IntKind.u8 0, Value.int IntKind.u8 0, Value.int IntKind.u8 0, Value.int IntKind.u8 0, Value.int IntKind.u8 0, Value.int IntKind.u8 0, Value.int IntKind.u8 0, Value.int IntKind.u8 0, Value.int IntKind.u8 0, Value.int IntKind.u8 0, Value.int IntKind.u8 0, Value.int IntKind.u8 0, Value.int IntKind.u8 0, Value.int IntKind.u8 0, Value.int IntKind.u8 0, Value.int IntKind.u8 0, Value.int IntKind.u8 0, Value.int IntKind.u8 0, Value.int IntKind.u8 0, Value.int IntKind.u8 0, Value.int IntKind.u8 0, Value.int IntKind.u8 0, Value.int IntKind.u8 0, Value.int IntKind.u8 0, Value.int IntKind.u8 0, Value.int IntKind.u8 0, Value.int IntKind.u8 0, Value.int IntKind.u8 0, Value.int IntKind.u8 0, Value.int IntKind.u8 0] 24 (0, 0))) := heap_alloc_new w1 _
  go_upto_region 9 with (refine wpList_store_row rfl 24 (.tmp 14) (.tmp 55) rfl w1.heap.size (cellsOf g).toArray rfl rfl 24 _ HN2.out (by rw [size24, dig_size HFL.out]) (by rw [dig_size HFL.out]; rfl) (cells_all _) ?_)
  have HR2 := setRow_heap _ _ _ (cellsOf g).toArray _ _ HN2.out
  have HB2 : Below w1.heap.size w1 ((w1.alloc (.cells #[Value.int IntKind.u8 0, Value.int IntKind.u8 0, Value.int IntKind.u8 0, Value.int IntKind.u8 0, Value.int IntKind.u8 0, Value.int IntKind.u8 0, Value.int IntKind.u8 0, Value.int IntKind.u8 0, Value.int IntKind.u8 0, Value.int IntKind.u8 0, Value.int IntKind.u8 0, Value.int IntKind.u8 0, Value.int IntKind.u8 0, Value.int IntKind.u8 0, Value.int IntKind.u8 0, Value.int IntKind.u8 0, Value.int IntKind.u8 0, Value.int IntKind.u8 0, Value.int IntKind.u8 0, Value.int IntKind.u8 0, Value.int IntKind.u8 0, Value.int IntKind.u8 0, Value.int IntKind.u8 0, Value.int IntKind.u8 0, Value.int IntKind.u8 0, Value.int IntKind.u8 0, Value.int IntKind.u8 0, Value.int IntKind.u8 0, Value.int IntKind.u8 0, Value.int IntKind.u8 0, Value.int IntKind.u8 0, Value.int IntKind.u8 0] 24)).setRow w1.heap.size (cellsOf g).toArray) := below_row (bel_alloc w1 _) (Nat.le_refl _) _
  obtain ⟨w2, HW2⟩ : ∃ W, Hid ((w1.alloc (.cells #[Value.int IntKind.u8 0, Value.int IntKind.u8 0, Value.int IntKind.u8 0, Value.int IntKind.u8 0, Value.int IntKind.u8 0, Value.int IntKind.u8 0, Value.int IntKind.u8 0, Value.int IntKind.u8 0, Value.int IntKind.u8 0, Value.int IntKind.u8 0, Value.int IntKind.u8 0, Value.int IntKind.u8 0, Value.int IntKind.u8 0, Value.int IntKind.u8 0, Value.int IntKind.u8 0, Value.int IntKind.u8 0, Value.int IntKind.u8 0, Value.int IntKind.u8 0, Value.int IntKind.u8 0, Value.int IntKind.u8 0, Value.int IntKind.u8 0, Value.int IntKind.u8 0, Value.int IntKind.u8 0, Value.int IntKind.u8 0, Value.int IntKind.u8 0, Value.int IntKind.u8 0, Value.int IntKind.u8 0, Value.int IntKind.u8 0, Value.int IntKind.u8 0, Value.int IntKind.u8 0, Value.int IntKind.u8 0, Value.int IntKind.u8 0] 24)).setRow w1.heap.size (cellsOf g).toArray = W) := ⟨_, rfl⟩
  rw [HW2.out] at HR2 HB2 ⊢
  have HR2 : Hid _ := HR2
  have HN3 : Hid (w2.heap[w.heap.size]? = some (.cells #[Value.int IntKind.u8 0, Value.int IntKind.u8 0, Value.int IntKind.u8 0, Value.int IntKind.u8 0, Value.int IntKind.u8 0, Value.int IntKind.u8 0, Value.int IntKind.u8 0, Value.int IntKind.u8 0, Value.int IntKind.u8 0, Value.int IntKind.u8 0, Value.int IntKind.u8 0, Value.int IntKind.u8 0, Value.int IntKind.u8 0, Value.int IntKind.u8 0, Value.int IntKind.u8 0, Value.int IntKind.u8 0, Value.int IntKind.u8 0, Value.int IntKind.u8 0, Value.int IntKind.u8 0, Value.int IntKind.u8 0, Value.int IntKind.u8 0, Value.int IntKind.u8 0, Value.int IntKind.u8 0, Value.int IntKind.u8 0, Value.int IntKind.u8 0, Value.int IntKind.u8 0, Value.int IntKind.u8 0, Value.int IntKind.u8 0, Value.int IntKind.u8 0, Value.int IntKind.u8 0, Value.int IntKind.u8 0, Value.int IntKind.u8 0] 24 (0, 0))) := (HB2.block _ HS1.out).trans HN1.out
  have HBW : Hid (Below w.heap.size w w2) := HB1.out.trans (HB2.mono HB1.out.size)
  clear HW2 HN2 HB2
  have hwn := HWN.out
  have hwx := HWX.out
  go_wp2_with fail
  refine (HB.out _ HBW.out).mono ?_
  rintro e w3 ⟨g2, u2, ok2, rfl, hov, hb3⟩
  have HOV : Hid (OvV z ls c d a b ds (nodeD z g g2) (wrap64 u2) ok2) := by have h := HRE.out g2 u2 ok2 hov; rw [show ((0 : Nat) : Int) + u2 = u2 from Int.zero_add u2] at h; exact h
  have HGL : Hid (g2.length = 32) := hov.1
  have HIG : Hid ((Tryd.prog.info? 24).map (·.size) = some (cellsOf g2).toArray.size) := by show _ = _; rw [size24, dig_size hov.1]
  have HND : Hid (∀ W, Calls Tryd.prog 27 #[.int .i64 z, .agg (cellsOf g).toArray, .agg (cellsOf g2).toArray] W fun e w' => e = .returned (dv (nodeD z g g2)) ∧ Below W.heap.size W w') := fun W => HNG.out g2 W hov.1
  have HB23 : Hid (Below w2.heap.size w2 w3) := hb3
  clear hov hb3 hwn hwx HA HB HHF HLE HRE HNG
  obtain ⟨nd, HNDD⟩ : ∃ d, Hid (nodeD z g g2 = d) := ⟨_, rfl⟩
  rw [HNDD.out] at HOV HND
  have HNL : Hid (nd.length = 32) := by show _ = _; rw [← HNDD.out]; exact nodeD_length _ _ _
  unfold dv
  have HN4 : Hid ((w3.alloc (.cells #[Value.int IntKind.u8 0, Value.int IntKind.u8 0, Value.int IntKind.u8 0, Value.int IntKind.u8 0, Value.int IntKind.u8 0, Value.int IntKind.u8 0, Value.int IntKind.u8 0, Value.int IntKind.u8 0, Value.int IntKind.u8 0, Value.int IntKind.u8 0, Value.int IntKind.u8 0, Value.int IntKind.u8 0, Value.int IntKind.u8 0, Value.int IntKind.u8 0, Value.int IntKind.u8 0, Value.int IntKind.u8 0, Value.int IntKind.u8 0, Value.int IntKind.u8 0, Value.int IntKind.u8 0, Value.int IntKind.u8 0, Value.int IntKind.u8 0, Value.int IntKind.u8 0, Value.int IntKind.u8 0, Value.int IntKind.u8 0, Value.int IntKind.u8 0, Value.int IntKind.u8 0, Value.int IntKind.u8 0, Value.int IntKind.u8 0, Value.int IntKind.u8 0, Value.int IntKind.u8 0, Value.int IntKind.u8 0, Value.int IntKind.u8 0] 24)).heap[w3.heap.size]? = some (.cells #[Value.int IntKind.u8 0, Value.int IntKind.u8 0, Value.int IntKind.u8 0, Value.int IntKind.u8 0, Value.int IntKind.u8 0, Value.int IntKind.u8 0, Value.int IntKind.u8 0, Value.int IntKind.u8 0, Value.int IntKind.u8 0, Value.int IntKind.u8 0, Value.int IntKind.u8 0, Value.int IntKind.u8 0, Value.int IntKind.u8 0, Value.int IntKind.u8 0, Value.int IntKind.u8 0, Value.int IntKind.u8 0, Value.int IntKind.u8 0, Value.int IntKind.u8 0, Value.int IntKind.u8 0, Value.int IntKind.u8 0, Value.int IntKind.u8 0, Value.int IntKind.u8 0, Value.int IntKind.u8 0, Value.int IntKind.u8 0, Value.int IntKind.u8 0, Value.int IntKind.u8 0, Value.int IntKind.u8 0, Value.int IntKind.u8 0, Value.int IntKind.u8 0, Value.int IntKind.u8 0, Value.int IntKind.u8 0, Value.int IntKind.u8 0] 24 (0, 0))) := heap_alloc_new w3 _
  go_upto_region 12 with (refine wpList_store_row rfl 24 (.tmp 17) (.tmp 74) rfl w3.heap.size (cellsOf g2).toArray rfl rfl 24 _ HN4.out (by rw [size24, dig_size HGL.out]) (by rw [dig_size HGL.out]; rfl) (cells_all _) ?_)
  have HR4 := setRow_heap _ _ _ (cellsOf g2).toArray _ _ HN4.out
  have HB4 : Below w3.heap.size w3 ((w3.alloc (.cells #[Value.int IntKind.u8 0, Value.int IntKind.u8 0, Value.int IntKind.u8 0, Value.int IntKind.u8 0, Value.int IntKind.u8 0, Value.int IntKind.u8 0, Value.int IntKind.u8 0, Value.int IntKind.u8 0, Value.int IntKind.u8 0, Value.int IntKind.u8 0, Value.int IntKind.u8 0, Value.int IntKind.u8 0, Value.int IntKind.u8 0, Value.int IntKind.u8 0, Value.int IntKind.u8 0, Value.int IntKind.u8 0, Value.int IntKind.u8 0, Value.int IntKind.u8 0, Value.int IntKind.u8 0, Value.int IntKind.u8 0, Value.int IntKind.u8 0, Value.int IntKind.u8 0, Value.int IntKind.u8 0, Value.int IntKind.u8 0, Value.int IntKind.u8 0, Value.int IntKind.u8 0, Value.int IntKind.u8 0, Value.int IntKind.u8 0, Value.int IntKind.u8 0, Value.int IntKind.u8 0, Value.int IntKind.u8 0, Value.int IntKind.u8 0] 24)).setRow w3.heap.size (cellsOf g2).toArray) := below_row (bel_alloc w3 _) (Nat.le_refl _) _
  obtain ⟨w4, HW4⟩ : ∃ W, Hid ((w3.alloc (.cells #[Value.int IntKind.u8 0, Value.int IntKind.u8 0, Value.int IntKind.u8 0, Value.int IntKind.u8 0, Value.int IntKind.u8 0, Value.int IntKind.u8 0, Value.int IntKind.u8 0, Value.int IntKind.u8 0, Value.int IntKind.u8 0, Value.int IntKind.u8 0, Value.int IntKind.u8 0, Value.int IntKind.u8 0, Value.int IntKind.u8 0, Value.int IntKind.u8 0, Value.int IntKind.u8 0, Value.int IntKind.u8 0, Value.int IntKind.u8 0, Value.int IntKind.u8 0, Value.int IntKind.u8 0, Value.int IntKind.u8 0, Value.int IntKind.u8 0, Value.int IntKind.u8 0, Value.int IntKind.u8 0, Value.int IntKind.u8 0, Value.int IntKind.u8 0, Value.int IntKind.u8 0, Value.int IntKind.u8 0, Value.int IntKind.u8 0, Value.int IntKind.u8 0, Value.int IntKind.u8 0, Value.int IntKind.u8 0, Value.int IntKind.u8 0] 24)).setRow w3.heap.size (cellsOf g2).toArray = W) := ⟨_, rfl⟩
  rw [HW4.out] at HR4 HB4 ⊢
  have HR4 : Hid _ := HR4
  have HB24 : Hid (Below w2.heap.size w2 w4) := HB23.out.trans (HB4.mono HB23.out.size)
  have HR24 : Hid (w4.heap[w1.heap.size]? = some (.cells (cellsOf g).toArray 24 (0, 0))) := (HB24.out.block _ (Array.getElem?_eq_some_iff.1 HR2.out).1).trans HR2.out
  clear HW4 HN4 HB4
  go_wp2_with (first | (refine wpList_load_row rfl 24 (.tmp 14) rfl w1.heap.size rfl 24 (cellsOf g).toArray (0, 0) _ HR24.out Tryd.underlying24 rfl HIF.out ?_) | (refine wpList_load_row rfl 24 (.tmp 17) rfl w3.heap.size rfl 24 (cellsOf g2).toArray (0, 0) _ HR4.out Tryd.underlying24 rfl HIG.out ?_))
  refine (HND.out _).mono ?_
  rintro e w5 ⟨rfl, hb5⟩
  have HB25 : Hid (Below w2.heap.size w2 w5) := HB24.out.trans (hb5.mono HB24.out.size)
  have HN5 : Hid (w5.heap[w.heap.size]? = some (.cells #[Value.int IntKind.u8 0, Value.int IntKind.u8 0, Value.int IntKind.u8 0, Value.int IntKind.u8 0, Value.int IntKind.u8 0, Value.int IntKind.u8 0, Value.int IntKind.u8 0, Value.int IntKind.u8 0, Value.int IntKind.u8 0, Value.int IntKind.u8 0, Value.int IntKind.u8 0, Value.int IntKind.u8 0, Value.int IntKind.u8 0, Value.int IntKind.u8 0, Value.int IntKind.u8 0, Value.int IntKind.u8 0, Value.int IntKind.u8 0, Value.int IntKind.u8 0, Value.int IntKind.u8 0, Value.int IntKind.u8 0, Value.int IntKind.u8 0, Value.int IntKind.u8 0, Value.int IntKind.u8 0, Value.int IntKind.u8 0, Value.int IntKind.u8 0, Value.int IntKind.u8 0, Value.int IntKind.u8 0, Value.int IntKind.u8 0, Value.int IntKind.u8 0, Value.int IntKind.u8 0, Value.int IntKind.u8 0, Value.int IntKind.u8 0] 24 (0, 0))) := (HB25.out.block _ (Array.getElem?_eq_some_iff.1 HN3.out).1).trans HN3.out
  have HBW5 : Hid (Below w.heap.size w w5) := HBW.out.trans (HB25.out.mono HBW.out.size)
  clear hb5
  unfold dv
  go_wp2_with (refine wpList_store_row rfl 24 (.tmp 10) (.tmp 80) rfl w.heap.size (cellsOf nd).toArray rfl rfl 24 _ HN5.out (by rw [size24, dig_size HNL.out]) (by rw [dig_size HNL.out]; rfl) (cells_all _) ?_)
  refine bodyPost_ret (results_dig_two rfl _ _ w.heap.size 24 (cellsOf nd).toArray (0, 0) rfl (setRow_heap _ _ _ _ _ _ HN5.out) (by rw [dig_size HNL.out])) rfl ?_
  exact ⟨nd, _, ok2, rfl, HOV.out, below_row HBW5.out (Nat.le_refl _) _⟩
set_option maxRecDepth 100000 in
set_option maxHeartbeats 4000000 in
theorem over_two_zero (z : Int) (ls : List LV) (c d a b n : Nat) (x y : Int) (po : Option Addr) (q pc : Nat) (ad : Addr) (U : Nat) (FL : List UInt8) (ds : List (List UInt8)) (w : World) (h2 : 2 ≤ n) (hn : n ≤ 9223372036854775807) (hw : wrap64 (x + (q : Int)) = y) (hy : ¬ y ≤ 0) (hx : ¬ (n : Int) ≤ x) (hU : U = 0) (hz : -9223372036854775808 ≤ z ∧ z ≤ 9223372036854775807) (x2 : Int) (hx2 : wrap64 (x - ((halfN n : Nat) : Int)) = x2)
    (hleft : ∀ g u ok, OvV z ls c d a (a + halfN n) ds g u ok → ok = true ∧ u = (U : Int) ∧ g = FL) (hFL : FL.length = 32)
    (hres : ∀ g u ok, OvV z ls c d (a + halfN n) b (ds.drop U) g u ok → OvV z ls c d a b ds (nodeD z FL g) (wrap64 ((U : Int) + u)) ok)
    (HA : Hid (∀ W, Below w.heap.size w W → Calls Tryd.prog 70 #[.int .i64 z, .int .i64 ((halfN n : Nat) : Int), .int .i64 x, .slice po q pc, .slice (some ad) 0 0] W (OvR z ls c d a (a + halfN n) ds W)))
    (HB : Hid (∀ W, Below w.heap.size w W → Calls Tryd.prog 70 #[.int .i64 z, .int .i64 ((n - halfN n : Nat) : Int), .int .i64 x2, .slice po q pc, .slice (some ad) 0 0] W (OvR z ls c d (a + halfN n) b (ds.drop U) W))) :
    Calls Tryd.prog 70 #[.int .i64 z, .int .i64 (n : Int), .int .i64 x, .slice po q pc, .slice (some ad) 0 0] w (OvR z ls c d a b ds w) := by
  have HHF : Hid (∀ W, Calls Tryd.prog 61 #[.int .i64 (n : Int)] W fun e w' => e = .returned (.int .i64 ((halfN n : Nat) : Int)) ∧ w' = W) := fun W => refHalf_any n W h2 hn
  obtain ⟨s1, s2, -⟩ := halfN_spec n h2 hn
  have hyd : decide (y ≤ 0) = false := decide_eq_false hy
  have hxd : decide ((n : Int) ≤ x) = false := decide_eq_false hx
  have y1 : ((n : Int) == 1) = false := by simp; omega
  have HWN : Hid (wrap64 ((n : Int) - ((halfN n : Nat) : Int)) = ((n - halfN n : Nat) : Int)) := wsub (Nat.le_of_lt s2) hn
  have HWX : Hid (wrap64 (x - ((halfN n : Nat) : Int)) = x2) := hx2
  have HLE : Hid (∀ g u ok, OvV z ls c d a (a + halfN n) ds g u ok → ok = true ∧ u = (U : Int) ∧ g = FL) := hleft
  have HRE : Hid (∀ g u ok, OvV z ls c d (a + halfN n) b (ds.drop U) g u ok → OvV z ls c d a b ds (nodeD z FL g) (wrap64 ((U : Int) + u)) ok) := hres
  have HNG : Hid (∀ (g : List UInt8) W, g.length = 32 → Calls Tryd.prog 27 #[.int .i64 z, .agg (cellsOf FL).toArray, .agg (cellsOf g).toArray] W fun e w' => e = .returned (dv (nodeD z FL g)) ∧ Below W.heap.size W w') := fun g W hg => refNode_any z FL g W hFL hg hz
  have HFL : Hid (FL.length = 32) := hFL
  have HIF : Hid ((Tryd.prog.info? 24).map (·.size) = some (cellsOf FL).toArray.size) := by show _ = _; rw [size24, dig_size hFL]
  obtain ⟨k, HK⟩ : ∃ k, Hid (halfN n = k) := ⟨_, rfl⟩
  rw [HK.out] at HHF HA HB HLE HRE HWN HWX s1 s2
  subst hU
  clear h2 hn s1 s2 hz hx2 hleft hres hFL
  go_enter Tryd.func70, Tryd.ntmps70
  have HN0 : Hid ((w.alloc (.cells #[Value.int IntKind.u8 0, Value.int IntKind.u8 0, Value.int IntKind.u8 0, Value.int IntKind.u8 0, Value.int IntKind.u8 0, Value.int IntKind.u8 0, Value.int IntKind.u8 0, Value.int IntKind.u8 0, Value.int IntKind.u8 0, Value.int IntKind.u8 0, Value.int IntKind.u8 0, Value.int IntKind.u8 0, Value.int IntKind.u8 0, Value.int IntKind.u8 0, Value.int IntKind.u8 0, Value.int IntKind.u8 0, Value.int IntKind.u8 0, Value.int IntKind.u8 0, Value.int IntKind.u8 0, Value.int IntKind.u8 0, Value.int IntKind.u8 0, Value.int IntKind.u8 0, Value.int IntKind.u8 0, Value.int IntKind.u8 0, Value.int IntKind.u8 0, Value.int IntKind.u8 0, Value.int IntKind.u8 0, Value.int IntKind.u8 0, Value.int IntKind.u8 0, Value.int IntKind.u8 0, Value.int IntKind.u8 0, Value.int IntKind.u8 0] 24)).heap[w.heap.size]? = some (.cells #[Value.int IntKind.u8 0, Value.int IntKind.u8 0, Value.int IntKind.u8 0, Value.int IntKind.u8 0, Value.int IntKind.u8 0, Value.int IntKind.u8 0, Value.int IntKind.u8 0, Value.int IntKind.u8 0, Value.int IntKind.u8 0, Value.int IntKind.u8 0, Value.int IntKind.u8 0, Value.int IntKind.u8 0, Value.int IntKind.u8 0, Value.int IntKind.u8 0, Value.int IntKind.u8 0, Value.int IntKind.u8 0, Value.int IntKind.u8 0, Value.int IntKind.u8 0, Value.int IntKind.u8 0, Value.int IntKind.u8 0, Value.int IntKind.u8 0, Value.int IntKind.u8 0, Value.int IntKind.u8 0, Value.int IntKind.u8 0, Value.int IntKind.u8 0, Value.int IntKind.u8 0, Value.int IntKind.u8 0, Value.int IntKind.u8 0, Value.int IntKind.u8 0, Value.int IntKind.u8 0, Value.int IntKind.u8 0, Value.int IntKind.u8 0] 24 (0, 0))) := heap_alloc_new w _
  have HB0 : Hid (Below w.heap.size w (w.alloc (.cells #[Value.int IntKind.u8 0, Value.int IntKind.u8 0, Value.int IntKind.u8 0, Value.int IntKind.u8 0, Value.int IntKind.u8 0, Value.int IntKind.u8 0, Value.int IntKind.u8 0, Value.int IntKind.u8 0, Value.int IntKind.u8 0, Value.int IntKind.u8 0, Value.int IntKind.u8 0, Value.int IntKind.u8 0, Value.int IntKind.u8 0, Value.int IntKind.u8 0, Value.int IntKind.u8 0, Value.int IntKind.u8 0, Value.int IntKind.u8 0, Value.int IntKind.u8 0, Value.int IntKind.u8 0, Value.int IntKind.u8 0, Value.int IntKind.u8 0, Value.int IntKind.u8 0, Value.int IntKind.u8 0, Value.int IntKind.u8 0, Value.int IntKind.u8 0, Value.int IntKind.u8 0, Value.int IntKind.u8 0, Value.int IntKind.u8 0, Value.int IntKind.u8 0, Value.int IntKind.u8 0, Value.int IntKind.u8 0, Value.int IntKind.u8 0] 24))) := bel_alloc w _
  go_wp2_with fail
  obtain ⟨W0, HW0⟩ : ∃ W, Hid (w.alloc (.cells #[Value.int IntKind.u8 0, Value.int IntKind.u8 0, Value.int IntKind.u8 0, Value.int IntKind.u8 0, Value.int IntKind.u8 0, Value.int IntKind.u8 0, Value.int IntKind.u8 0, Value.int IntKind.u8 0, Value.int IntKind.u8 0, Value.int IntKind.u8 0, Value.int IntKind.u8 0, Value.int IntKind.u8 0, Value.int IntKind.u8 0, Value.int IntKind.u8 0, Value.int IntKind.u8 0, Value.int IntKind.u8 0, Value.int IntKind.u8 0, Value.int IntKind.u8 0, Value.int IntKind.u8 0, Value.int IntKind.u8 0, Value.int IntKind.u8 0, Value.int IntKind.u8 0, Value.int IntKind.u8 0, Value.int IntKind.u8 0, Value.int IntKind.u8 0, Value.int IntKind.u8 0, Value.int IntKind.u8 0, Value.int IntKind.u8 0, Value.int IntKind.u8 0, Value.int IntKind.u8 0, Value.int IntKind.u8 0, Value.int IntKind.u8 0] 24) = W) := ⟨_, rfl⟩
  rw [HW0.out] at HN0 HB0 ⊢
  clear HW0 hyd hxd y1 hw hy hx
  refine (HHF.out _).mono ?_
  rintro e wx ⟨rfl, hwx⟩
  rw [hwx]
  clear hwx wx
  go_wp2_with fail
  refine (HA.out _ HB0.out).mono ?_
  rintro e w1 ⟨g, u, ok, rfl, hov, hb1⟩
  obtain ⟨hok, hu, hg⟩ := HLE.out g u ok hov
  subst hok hu hg
  have HN1 : Hid (w1.heap[w.heap.size]? = some (.cells #[Value.int IntKind.u8 0, Value.int IntKind.u8 0, Value.int IntKind.u8 0, Value.int IntKind.u8 0, Value.int IntKind.u8 0, Value.int IntKind.u8 0, Value.int IntKind.u8 0, Value.int IntKind.u8 0, Value.int IntKind.u8 0, Value.int IntKind.u8 0, Value.int IntKind.u8 0, Value.int IntKind.u8 0, Value.int IntKind.u8 0, Value.int IntKind.u8 0, Value.int IntKind.u8 0, Value.int IntKind.u8 0, Value.int IntKind.u8 0, Value.int IntKind.u8 0, Value.int IntKind.u8 0, Value.int IntKind.u8 0, Value.int IntKind.u8 0, Value.int IntKind.u8 0, Value.int IntKind.u8 0, Value.int IntKind.u8 0, Value.int IntKind.u8 0, Value.int IntKind.u8 0, Value.int IntKind.u8 0, Value.int IntKind.u8 0, Value.int IntKind.u8 0, Value.int IntKind.u8 0, Value.int IntKind.u8 0, Value.int IntKind.u8 0] 24 (0, 0))) := (hb1.block _ (Array.getElem?_eq_some_iff.1 HN0.out).1).trans HN0.out
  have HB1 : Hid (Below w.heap.size w w1) := HB0.out.trans (hb1.mono HB0.out.size)
  have HS1 : Hid (w.heap.size < w1.heap.size) := (Array.getElem?_eq_some_iff.1 HN1.out).1
  clear hov hb1
  unfold dv
  have HN2 : Hid ((w1.alloc (.cells #[Value.int IntKind.u8 0, Value.int IntKind.u8 0, Value.int IntKind.u8 0, Value.int IntKind.u8 0, Value.int IntKind.u8 0, Value.int IntKind.u8 0, Value.int IntKind.u8 0, Value.int IntKind.u8 0, Value.int IntKind.u8 0, Value.int IntKind.u8 0, Value.int IntKind.u8 0, Value.int IntKind.u8 0, Value.int IntKind.u8 0, Value.int IntKind.u8 0, Value.int IntKind.u8 0, Value.int IntKind.u8 0, Value.int IntKind.u8 0, Value.int IntKind.u8 0, Value.int IntKind.u8 0, Value.int IntKind.u8 0, Value.int IntKind.u8 0, Value.int IntKind.u8 0, Value.int IntKind.u8 0, Value.int IntKind.u8 0, Value.int IntKind.u8 0, Value.int IntKind.u8 0, Value.int IntKind.u8 0, Value.int IntKind.u8 0, Value.int IntKind.u8 0, Value.int IntKind.u8 0, Value.int IntKind.u8 0, Value.int IntKind.u8 0] 24)).heap[w1.heap.size]? = some (.cells #[Value.int IntKind.u8 0, Value.int IntKind.u8 0, Value.int IntKind.u8 0, Value.int IntKind.u8 0, Value.int IntKind.u8 0, Value.int IntKind.u8 0, Value.int IntKind.u8 0, Value.int IntKind.u8 0, Value.int IntKind.u8 0, Value.int IntKind.u8 0, Value.int IntKind.u8 0, Value.int IntKind.u8 0, Value.int IntKind.u8 0, Value.int IntKind.u8 0, Value.int IntKind.u8 0, Value.int IntKind.u8 0, Value.int IntKind.u8 0, Value.int IntKind.u8 0, Value.int IntKind.u8 0, Value.int IntKind.u8 0, Value.int IntKind.u8 0, Value.int IntKind.u8 0, Value.int IntKind.u8 0, Value.int IntKind.u8 0, Value.int IntKind.u8 0, Value.int IntKind.u8 0, Value.int IntKind.u8 0, Value.int IntKind.u8 0, Value.int IntKind.u8 0, Value.int IntKind.u8 0, Value.int IntKind.u8 0, Value.int IntKind.u8 0] 24 (0, 0))) := heap_alloc_new w1 _
  go_upto_region 9 with (refine wpList_store_row rfl 24 (.tmp 14) (.tmp 55) rfl w1.heap.size (cellsOf g).toArray rfl rfl 24 _ HN2.out (by rw [size24, dig_size HFL.out]) (by rw [dig_size HFL.out]; rfl) (cells_all _) ?_)
  have HR2 := setRow_heap _ _ _ (cellsOf g).toArray _ _ HN2.out
  have HB2 : Below w1.heap.size w1 ((w1.alloc (.cells #[Value.int IntKind.u8 0, Value.int IntKind.u8 0, Value.int IntKind.u8 0, Value.int IntKind.u8 0, Value.int IntKind.u8 0, Value.int IntKind.u8 0, Value.int IntKind.u8 0, Value.int IntKind.u8 0, Value.int IntKind.u8 0, Value.int IntKind.u8 0, Value.int IntKind.u8 0, Value.int IntKind.u8 0, Value.int IntKind.u8 0, Value.int IntKind.u8 0, Value.int IntKind.u8 0, Value.int IntKind.u8 0, Value.int IntKind.u8 0, Value.int IntKind.u8 0, Value.int IntKind.u8 0, Value.int IntKind.u8 0, Value.int IntKind.u8 0, Value.int IntKind.u8 0, Value.int IntKind.u8 0, Value.int IntKind.u8 0, Value.int IntKind.u8 0, Value.int IntKind.u8 0, Value.int IntKind.u8 0, Value.int IntKind.u8 0, Value.int IntKind.u8 0, Value.int IntKind.u8 0, Value.int IntKind.u8 0, Value.int IntKind.u8 0] 24)).setRow w1.heap.size (cellsOf g).toArray) := below_row (bel_alloc w1 _) (Nat.le_refl _) _
  obtain ⟨w2, HW2⟩ : ∃ W, Hid ((w1.alloc (.cells #[Value.int IntKind.u8 0, Value.int IntKind.u8 0, Value.int IntKind.u8 0, Value.int IntKind.u8 0, Value.int IntKind.u8 0, Value.int IntKind.u8 0, Value.int IntKind.u8 0, Value.int IntKind.u8 0, Value.int IntKind.u8 0, Value.int IntKind.u8 0, Value.int IntKind.u8 0, Value.int IntKind.u8 0, Value.int IntKind.u8 0, Value.int IntKind.u8 0, Value.int IntKind.u8 0, Value.int IntKind.u8 0, Value.int IntKind.u8 0, Value.int IntKind.u8 0, Value.int IntKind.u8 0, Value.int IntKind.u8 0, Value.int IntKind.u8 0, Value.int IntKind.u8 0, Value.int IntKind.u8 0, Value.int IntKind.u8 0, Value.int IntKind.u8 0, Value.int IntKind.u8 0, Value.int IntKind.u8 0, Value.int IntKind.u8 0, Value.int IntKind.u8 0, Value.int IntKind.u8 0, Value.int IntKind.u8 0, Value.int IntKind.u8 0] 24)).setRow w1.heap.size (cellsOf g).toArray = W) := ⟨_, rfl⟩
  rw [HW2.out] at HR2 HB2 ⊢
  have HR2 : Hid _ := HR2
  have HN3 : Hid (w2.heap[w.heap.size]? = some (.cells #[Value.int IntKind.u8 0, Value.int IntKind.u8 0, Value.int IntKind.u8 0, Value.int IntKind.u8 0, Value.int IntKind.u8 0, Value.int IntKind.u8 0, Value.int IntKind.u8 0, Value.int IntKind.u8 0, Value.int IntKind.u8 0, Value.int IntKind.u8 0, Value.int IntKind.u8 0, Value.int IntKind.u8 0, Value.int IntKind.u8 0, Value.int IntKind.u8 0, Value.int IntKind.u8 0, Value.int IntKind.u8 0, Value.int IntKind.u8 0, Value.int IntKind.u8 0, Value.int IntKind.u8 0, Value.int IntKind.u8 0, Value.int IntKind.u8 0, Value.int IntKind.u8 0, Value.int IntKind.u8 0, Value.int IntKind.u8 0, Value.int IntKind.u8 0, Value.int IntKind.u8 0, Value.int IntKind.u8 0, Value.int IntKind.u8 0, Value.int IntKind.u8 0, Value.int IntKind.u8 0, Value.int IntKind.u8 0, Value.int IntKind.u8 0] 24 (0, 0))) := (HB2.block _ HS1.out).trans HN1.out
  have HBW : Hid (Below w.heap.size w w2) := HB1.out.trans (HB2.mono HB1.out.size)
  clear HW2 HN2 HB2
  have hwn := HWN.out
  have hwx := HWX.out
  go_wp2_with fail
  refine (HB.out _ HBW.out).mono ?_
  rintro e w3 ⟨g2, u2, ok2, rfl, hov, hb3⟩
  have HOV : Hid (OvV z ls c d a b ds (nodeD z g g2) (wrap64 u2) ok2) := by have h := HRE.out g2 u2 ok2 hov; rw [show ((0 : Nat) : Int) + u2 = u2 from Int.zero_add u2] at h; exact h
  have HGL : Hid (g2.length = 32) := hov.1
  have HIG : Hid ((Tryd.prog.info? 24).map (·.size) = some (cellsOf g2).toArray.size) := by show _ = _; rw [size24, dig_size hov.1]
  have HND : Hid (∀ W, Calls Tryd.prog 27 #[.int .i64 z, .agg (cellsOf g).toArray, .agg (cellsOf g2).toArray] W fun e w' => e = .returned (dv (nodeD z g g2)) ∧ Below W.heap.size W w') := fun W => HNG.out g2 W hov.1
  have HB23 : Hid (Below w2.heap.size w2 w3) := hb3
  clear hov hb3 hwn hwx HA HB HHF HLE HRE HNG
  obtain ⟨nd, HNDD⟩ : ∃ d, Hid (nodeD z g g2 = d) := ⟨_, rfl⟩
  rw [HNDD.out] at HOV HND
  have HNL : Hid (nd.length = 32) := by show _ = _; rw [← HNDD.out]; exact nodeD_length _ _ _
  unfold dv
  have HN4 : Hid ((w3.alloc (.cells #[Value.int IntKind.u8 0, Value.int IntKind.u8 0, Value.int IntKind.u8 0, Value.int IntKind.u8 0, Value.int IntKind.u8 0, Value.int IntKind.u8 0, Value.int IntKind.u8 0, Value.int IntKind.u8 0, Value.int IntKind.u8 0, Value.int IntKind.u8 0, Value.int IntKind.u8 0, Value.int IntKind.u8 0, Value.int IntKind.u8 0, Value.int IntKind.u8 0, Value.int IntKind.u8 0, Value.int IntKind.u8 0, Value.int IntKind.u8 0, Value.int IntKind.u8 0, Value.int IntKind.u8 0, Value.int IntKind.u8 0, Value.int IntKind.u8 0, Value.int IntKind.u8 0, Value.int IntKind.u8 0, Value.int IntKind.u8 0, Value.int IntKind.u8 0, Value.int IntKind.u8 0, Value.int IntKind.u8 0, Value.int IntKind.u8 0, Value.int IntKind.u8 0, Value.int IntKind.u8 0, Value.int IntKind.u8 0, Value.int IntKind.u8 0] 24)).heap[w3.heap.size]? = some (.cells #[Value.int IntKind.u8 0, Value.int IntKind.u8 0, Value.int IntKind.u8 0, Value.int IntKind.u8 0, Value.int IntKind.u8 0, Value.int IntKind.u8 0, Value.int IntKind.u8 0, Value.int IntKind.u8 0, Value.int IntKind.u8 0, Value.int IntKind.u8 0, Value.int IntKind.u8 0, Value.int IntKind.u8 0, Value.int IntKind.u8 0, Value.int IntKind.u8 0, Value.int IntKind.u8 0, Value.int IntKind.u8 0, Value.int IntKind.u8 0, Value.int IntKind.u8 0, Value.int IntKind.u8 0, Value.int IntKind.u8 0, Value.int IntKind.u8 0, Value.int IntKind.u8 0, Value.int IntKind.u8 0, Value.int IntKind.u8 0, Value.int IntKind.u8 0, Value.int IntKind.u8 0, Value.int IntKind.u8 0, Value.int IntKind.u8 0, Value.int IntKind.u8 0, Value.int IntKind.u8 0, Value.int IntKind.u8 0, Value.int IntKind.u8 0] 24 (0, 0))) := heap_alloc_new w3 _
  go_upto_region 12 with (refine wpList_store_row rfl 24 (.tmp 17) (.tmp 74) rfl w3.heap.size (cellsOf g2).toArray rfl rfl 24 _ HN4.out (by rw [size24, dig_size HGL.out]) (by rw [dig_size HGL.out]; rfl) (cells_all _) ?_)
  have HR4 := setRow_heap _ _ _ (cellsOf g2).toArray _ _ HN4.out
  have HB4 : Below w3.heap.size w3 ((w3.alloc (.cells #[Value.int IntKind.u8 0, Value.int IntKind.u8 0, Value.int IntKind.u8 0, Value.int IntKind.u8 0, Value.int IntKind.u8 0, Value.int IntKind.u8 0, Value.int IntKind.u8 0, Value.int IntKind.u8 0, Value.int IntKind.u8 0, Value.int IntKind.u8 0, Value.int IntKind.u8 0, Value.int IntKind.u8 0, Value.int IntKind.u8 0, Value.int IntKind.u8 0, Value.int IntKind.u8 0, Value.int IntKind.u8 0, Value.int IntKind.u8 0, Value.int IntKind.u8 0, Value.int IntKind.u8 0, Value.int IntKind.u8 0, Value.int IntKind.u8 0, Value.int IntKind.u8 0, Value.int IntKind.u8 0, Value.int IntKind.u8 0, Value.int IntKind.u8 0, Value.int IntKind.u8 0, Value.int IntKind.u8 0, Value.int IntKind.u8 0, Value.int IntKind.u8 0, Value.int IntKind.u8 0, Value.int IntKind.u8 0, Value.int IntKind.u8 0] 24)).setRow w3.heap.size (cellsOf g2).toArray) := below_row (bel_alloc w3 _) (Nat.le_refl _) _
  obtain ⟨w4, HW4⟩ : ∃ W, Hid ((w3.alloc (.cells #[Value.int IntKind.u8 0, Value.int IntKind.u8 0, Value.int IntKind.u8 0, Value.int IntKind.u8 0, Value.int IntKind.u8 0, Value.int IntKind.u8 0, Value.int IntKind.u8 0, Value.int IntKind.u8 0, Value.int IntKind.u8 0, Value.int IntKind.u8 0, Value.int IntKind.u8 0, Value.int IntKind.u8 0, Value.int IntKind.u8 0, Value.int IntKind.u8 0, Value.int IntKind.u8 0, Value.int IntKind.u8 0, Value.int IntKind.u8 0, Value.int IntKind.u8 0, Value.int IntKind.u8 0, Value.int IntKind.u8 0, Value.int IntKind.u8 0, Value.int IntKind.u8 0, Value.int IntKind.u8 0, Value.int IntKind.u8 0, Value.int IntKind.u8 0, Value.int IntKind.u8 0, Value.int IntKind.u8 0, Value.int IntKind.u8 0, Value.int IntKind.u8 0, Value.int IntKind.u8 0, Value.int IntKind.u8 0, Value.int IntKind.u8 0] 24)).setRow w3.heap.size (cellsOf g2).toArray = W) := ⟨_, rfl⟩
  rw [HW4.out] at HR4 HB4 ⊢
  have HR4 : Hid _ := HR4
  have HB24 : Hid (Below w2.heap.size w2 w4) := HB23.out.trans (HB4.mono HB23.out.size)
  have HR24 : Hid (w4.heap[w1.heap.size]? = some (.cells (cellsOf g).toArray 24 (0, 0))) := (HB24.out.block _ (Array.getElem?_eq_some_iff.1 HR2.out).1).trans HR2.out
  clear HW4 HN4 HB4
  go_wp2_with (first | (refine wpList_load_row rfl 24 (.tmp 14) rfl w1.heap.size rfl 24 (cellsOf g).toArray (0, 0) _ HR24.out Tryd.underlying24 rfl HIF.out ?_) | (refine wpList_load_row rfl 24 (.tmp 17) rfl w3.heap.size rfl 24 (cellsOf g2).toArray (0, 0) _ HR4.out Tryd.underlying24 rfl HIG.out ?_))
  refine (HND.out _).mono ?_
  rintro e w5 ⟨rfl, hb5⟩
  have HB25 : Hid (Below w2.heap.size w2 w5) := HB24.out.trans (hb5.mono HB24.out.size)
  have HN5 : Hid (w5.heap[w.heap.size]? = some (.cells #[Value.int IntKind.u8 0, Value.int IntKind.u8 0, Value.int IntKind.u8 0, Value.int IntKind.u8 0, Value.int IntKind.u8 0, Value.int IntKind.u8 0, Value.int IntKind.u8 0, Value.int IntKind.u8 0, Value.int IntKind.u8 0, Value.int IntKind.u8 0, Value.int IntKind.u8 0, Value.int IntKind.u8 0, Value.int IntKind.u8 0, Value.int IntKind.u8 0, Value.int IntKind.u8 0, Value.int IntKind.u8 0, Value.int IntKind.u8 0, Value.int IntKind.u8 0, Value.int IntKind.u8 0, Value.int IntKind.u8 0, Value.int IntKind.u8 0, Value.int IntKind.u8 0, Value.int IntKind.u8 0, Value.int IntKind.u8 0, Value.int IntKind.u8 0, Value.int IntKind.u8 0, Value.int IntKind.u8 0, Value.int IntKind.u8 0, Value.int IntKind.u8 0, Value.int IntKind.u8 0, Value.int IntKind.u8 0, Value.int IntKind.u8 0] 24 (0, 0))) := (HB25.out.block _ (Array.getElem?_eq_some_iff.1 HN3.out).1).trans HN3.out
  have HBW5 : Hid (Below w.heap.size w w5) := HBW.out.trans (HB25.out.mono HBW.out.size)
  clear hb5
  unfold dv
  go_wp2_with (refine wpList_store_row rfl 24 (.tmp 10) (.tmp 80) rfl w.heap.size (cellsOf nd).toArray rfl rfl 24 _ HN5.out (by rw [size24, dig_size HNL.out]) (by rw [dig_size HNL.out]; rfl) (cells_all _) ?_)
  refine bodyPost_ret (results_dig_two rfl _ _ w.heap.size 24 (cellsOf nd).toArray (0, 0) rfl (setRow_heap _ _ _ _ _ _ HN5.out) (by rw [dig_size HNL.out])) rfl ?_
  exact ⟨nd, _, ok2, rfl, HOV.out, below_row HBW5.out (Nat.le_refl _) _⟩
set_option maxRecDepth 100000 in
set_option maxHeartbeats 4000000 in
theorem over_two_eq (z : Int) (ls : List LV) (c d a b n : Nat) (x y : Int) (po : Option Addr) (q pc : Nat) (pb pf : Nat) (U : Nat) (FL : List UInt8) (ds : List (List UInt8)) (w : World) (h2 : 2 ≤ n) (hn : n ≤ 9223372036854775807) (hw : wrap64 (x + (q : Int)) = y) (hy : ¬ y ≤ 0) (hx : ¬ (n : Int) ≤ x)  (hz : -9223372036854775808 ≤ z ∧ z ≤ 9223372036854775807) (x2 : Int) (hx2 : wrap64 (x - ((halfN n : Nat) : Int)) = x2)
    (hleft : ∀ g u ok, OvV z ls c d a (a + halfN n) ds g u ok → ok = true ∧ u = (U : Int) ∧ g = FL) (hFL : FL.length = 32)
    (hres : ∀ g u ok, OvV z ls c d (a + halfN n) b (ds.drop U) g u ok → OvV z ls c d a b ds (nodeD z FL g) (wrap64 ((U : Int) + u)) ok)
    (HA : Hid (∀ W, Below w.heap.size w W → Calls Tryd.prog 70 #[.int .i64 z, .int .i64 ((halfN n : Nat) : Int), .int .i64 x, .slice po q pc, .slice (some ⟨pb, pf, none⟩) U U] W (OvR z ls c d a (a + halfN n) ds W)))
    (HB : Hid (∀ W, Below w.heap.size w W → Calls Tryd.prog 70 #[.int .i64 z, .int .i64 ((n - halfN n : Nat) : Int), .int .i64 x2, .slice po q pc, .slice (some ⟨pb, pf, none⟩) 0 0] W (OvR z ls c d (a + halfN n) b (ds.drop U) W))) :
    Calls Tryd.prog 70 #[.int .i64 z, .int .i64 (n : Int), .int .i64 x, .slice po q pc, .slice (some ⟨pb, pf, none⟩) U U] w (OvR z ls c d a b ds w) := by
  have HHF : Hid (∀ W, Calls Tryd.prog 61 #[.int .i64 (n : Int)] W fun e w' => e = .returned (.int .i64 ((halfN n : Nat) : Int)) ∧ w' = W) := fun W => refHalf_any n W h2 hn
  obtain ⟨s1, s2, -⟩ := halfN_spec n h2 hn
  have hyd : decide (y ≤ 0) = false := decide_eq_false hy
  have hxd : decide ((n : Int) ≤ x) = false := decide_eq_false hx
  have y1 : ((n : Int) == 1) = false := by simp; omega
  have HWN : Hid (wrap64 ((n : Int) - ((halfN n : Nat) : Int)) = ((n - halfN n : Nat) : Int)) := wsub (Nat.le_of_lt s2) hn
  have HWX : Hid (wrap64 (x - ((halfN n : Nat) : Int)) = x2) := hx2
  have HLE : Hid (∀ g u ok, OvV z ls c d a (a + halfN n) ds g u ok → ok = true ∧ u = (U : Int) ∧ g = FL) := hleft
  have HRE : Hid (∀ g u ok, OvV z ls c d (a + halfN n) b (ds.drop U) g u ok → OvV z ls c d a b ds (nodeD z FL g) (wrap64 ((U : Int) + u)) ok) := hres
  have HNG : Hid (∀ (g : List UInt8) W, g.length = 32 → Calls Tryd.prog 27 #[.int .i64 z, .agg (cellsOf FL).toArray, .agg (cellsOf g).toArray] W fun e w' => e = .returned (dv (nodeD z FL g)) ∧ Below W.heap.size W w') := fun g W hg => refNode_any z FL g W hFL hg hz
  have HFL : Hid (FL.length = 32) := hFL
  have HIF : Hid ((Tryd.prog.info? 24).map (·.size) = some (cellsOf FL).toArray.size) := by show _ = _; rw [size24, dig_size hFL]
  obtain ⟨k, HK⟩ : ∃ k, Hid (halfN n = k) := ⟨_, rfl⟩
  rw [HK.out] at HHF HA HB HLE HRE HWN HWX s1 s2
  clear h2 hn s1 s2 hz hx2 hleft hres hFL
  go_enter Tryd.func70, Tryd.ntmps70
  have HN0 : Hid ((w.alloc (.cells #[Value.int IntKind.u8 0, Value.int IntKind.u8 0, Value.int IntKind.u8 0, Value.int IntKind.u8 0, Value.int IntKind.u8 0, Value.int IntKind.u8 0, Value.int IntKind.u8 0, Value.int IntKind.u8 0, Value.int IntKind.u8 0, Value.int IntKind.u8 0, Value.int IntKind.u8 0, Value.int IntKind.u8 0, Value.int IntKind.u8 0, Value.int IntKind.u8 0, Value.int IntKind.u8 0, Value.int IntKind.u8 0, Value.int IntKind.u8 0, Value.int IntKind.u8 0, Value.int IntKind.u8 0, Value.int IntKind.u8 0, Value.int IntKind.u8 0, Value.int IntKind.u8 0, Value.int IntKind.u8 0, Value.int IntKind.u8 0, Value.int IntKind.u8 0, Value.int IntKind.u8 0, Value.int IntKind.u8 0, Value.int IntKind.u8 0, Value.int IntKind.u8 0, Value.int IntKind.u8 0, Value.int IntKind.u8 0, Value.int IntKind.u8 0] 24)).heap[w.heap.size]? = some (.cells #[Value.int IntKind.u8 0, Value.int IntKind.u8 0, Value.int IntKind.u8 0, Value.int IntKind.u8 0, Value.int IntKind.u8 0, Value.int IntKind.u8 0, Value.int IntKind.u8 0, Value.int IntKind.u8 0, Value.int IntKind.u8 0, Value.int IntKind.u8 0, Value.int IntKind.u8 0, Value.int IntKind.u8 0, Value.int IntKind.u8 0, Value.int IntKind.u8 0, Value.int IntKind.u8 0, Value.int IntKind.u8 0, Value.int IntKind.u8 0, Value.int IntKind.u8 0, Value.int IntKind.u8 0, Value.int IntKind.u8 0, Value.int IntKind.u8 0, Value.int IntKind.u8 0, Value.int IntKind.u8 0, Value.int IntKind.u8 0, Value.int IntKind.u8 0, Value.int IntKind.u8 0, Value.int IntKind.u8 0, Value.int IntKind.u8 0, Value.int IntKind.u8 0, Value.int IntKind.u8 0, Value.int IntKind.u8 0, Value.int IntKind.u8 0] 24 (0, 0))) := heap_alloc_new w _
  have HB0 : Hid (Below w.heap.size w (w.alloc (.cells #[Value.int IntKind.u8 0, Value.int IntKind.u8 0, Value.int IntKind.u8 0, Value.int IntKind.u8 0, Value.int IntKind.u8 0, Value.int IntKind.u8 0, Value.int IntKind.u8 0, Value.int IntKind.u8 0, Value.int IntKind.u8 0, Value.int IntKind.u8 0, Value.int IntKind.u8 0, Value.int IntKind.u8 0, Value.int IntKind.u8 0, Value.int IntKind.u8 0, Value.int IntKind.u8 0, Value.int IntKind.u8 0, Value.int IntKind.u8 0, Value.int IntKind.u8 0, Value.int IntKind.u8 0, Value.int IntKind.u8 0, Value.int IntKind.u8 0, Value.int IntKind.u8 0, Value.int IntKind.u8 0, Value.int IntKind.u8 0, Value.int IntKind.u8 0, Value.int IntKind.u8 0, Value.int IntKind.u8 0, Value.int IntKind.u8 0, Value.int IntKind.u8 0, Value.int IntKind.u8 0, Value.int IntKind.u8 0, Value.int IntKind.u8 0] 24))) := bel_alloc w _
  go_wp2_with fail
  obtain ⟨W0, HW0⟩ : ∃ W, Hid (w.alloc (.cells #[Value.int IntKind.u8 0, Value.int IntKind.u8 0, Value.int IntKind.u8 0, Value.int IntKind.u8 0, Value.int IntKind.u8 0, Value.int IntKind.u8 0, Value.int IntKind.u8 0, Value.int IntKind.u8 0, Value.int IntKind.u8 0, Value.int IntKind.u8 0, Value.int IntKind.u8 0, Value.int IntKind.u8 0, Value.int IntKind.u8 0, Value.int IntKind.u8 0, Value.int IntKind.u8 0, Value.int IntKind.u8 0, Value.int IntKind.u8 0, Value.int IntKind.u8 0, Value.int IntKind.u8 0, Value.int IntKind.u8 0, Value.int IntKind.u8 0, Value.int IntKind.u8 0, Value.int IntKind.u8 0, Value.int IntKind.u8 0, Value.int IntKind.u8 0, Value.int IntKind.u8 0, Value.int IntKind.u8 0, Value.int IntKind.u8 0, Value.int IntKind.u8 0, Value.int IntKind.u8 0, Value.int IntKind.u8 0, Value.int IntKind.u8 0] 24) = W) := ⟨_, rfl⟩
  rw [HW0.out] at HN0 HB0 ⊢
  clear HW0 hyd hxd y1 hw hy hx
  refine (HHF.out _).mono ?_
  rintro e wx ⟨rfl, hwx⟩
  rw [hwx]
  clear hwx wx
  go_wp2_with fail
  refine (HA.out _ HB0.out).mono ?_
  rintro e w1 ⟨g, u, ok, rfl, hov, hb1⟩
  obtain ⟨hok, hu, hg⟩ := HLE.out g u ok hov
  subst hok hu hg
  have HN1 : Hid (w1.heap[w.heap.size]? = some (.cells #[Value.int IntKind.u8 0, Value.int IntKind.u8 0, Value.int IntKind.u8 0, Value.int IntKind.u8 0, Value.int IntKind.u8 0, Value.int IntKind.u8 0, Value.int IntKind.u8 0, Value.int IntKind.u8 0, Value.int IntKind.u8 0, Value.int IntKind.u8 0, Value.int IntKind.u8 0, Value.int IntKind.u8 0, Value.int IntKind.u8 0, Value.int IntKind.u8 0, Value.int IntKind.u8 0, Value.int IntKind.u8 0, Value.int IntKind.u8 0, Value.int IntKind.u8 0, Value.int IntKind.u8 0, Value.int IntKind.u8 0, Value.int IntKind.u8 0, Value.int IntKind.u8 0, Value.int IntKind.u8 0, Value.int IntKind.u8 0, Value.int IntKind.u8 0, Value.int IntKind.u8 0, Value.int IntKind.u8 0, Value.int IntKind.u8 0, Value.int IntKind.u8 0, Value.int IntKind.u8 0, Value.int IntKind.u8 0, Value.int IntKind.u8 0] 24 (0, 0))) := (hb1.block _ (Array.getElem?_eq_some_iff.1 HN0.out).1).trans HN0.out
  have HB1 : Hid (Below w.heap.size w w1) := HB0.out.trans (hb1.mono HB0.out.size)
  have HS1 : Hid (w.heap.size < w1.heap.size) := (Array.getElem?_eq_some_iff.1 HN1.out).1
  clear hov hb1
  unfold dv
  have HN2 : Hid ((w1.alloc (.cells #[Value.int IntKind.u8 0, Value.int IntKind.u8 0, Value.int IntKind.u8 0, Value.int IntKind.u8 0, Value.int IntKind.u8 0, Value.int IntKind.u8 0, Value.int IntKind.u8 0, Value.int IntKind.u8 0, Value.int IntKind.u8 0, Value.int IntKind.u8 0, Value.int IntKind.u8 0, Value.int IntKind.u8 0, Value.int IntKind.u8 0, Value.int IntKind.u8 0, Value.int IntKind.u8 0, Value.int IntKind.u8 0, Value.int IntKind.u8 0, Value.int IntKind.u8 0, Value.int IntKind.u8 0, Value.int IntKind.u8 0, Value.int IntKind.u8 0, Value.int IntKind.u8 0, Value.int IntKind.u8 0, Value.int IntKind.u8 0, Value.int IntKind.u8 0, Value.int IntKind.u8 0, Value.int IntKind.u8 0, Value.int IntKind.u8 0, Value.int IntKind.u8 0, Value.int IntKind.u8 0, Value.int IntKind.u8 0, Value.int IntKind.u8 0] 24)).heap[w1.heap.size]? = some (.cells #[Value.int IntKind.u8 0, Value.int IntKind.u8 0, Value.int IntKind.u8 0, Value.int IntKind.u8 0, Value.int IntKind.u8 0, Value.int IntKind.u8 0, Value.int IntKind.u8 0, Value.int IntKind.u8 0, Value.int IntKind.u8 0, Value.int IntKind.u8 0, Value.int IntKind.u8 0, Value.int IntKind.u8 0, Value.int IntKind.u8 0, Value.int IntKind.u8 0, Value.int IntKind.u8 0, Value.int IntKind.u8 0, Value.int IntKind.u8 0, Value.int IntKind.u8 0, Value.int IntKind.u8 0, Value.int IntKind.u8 0, Value.int IntKind.u8 0, Value.int IntKind.u8 0, Value.int IntKind.u8 0, Value.int IntKind.u8 0, Value.int IntKind.u8 0, Value.int IntKind.u8 0, Value.int IntKind.u8 0, Value.int IntKind.u8 0, Value.int IntKind.u8 0, Value.int IntKind.u8 0, Value.int IntKind.u8 0, Value.int IntKind.u8 0] 24 (0, 0))) := heap_alloc_new w1 _
  go_upto_region 9 with (refine wpList_store_row rfl 24 (.tmp 14) (.tmp 55) rfl w1.heap.size (cellsOf g).toArray rfl rfl 24 _ HN2.out (by rw [size24, dig_size HFL.out]) (by rw [dig_size HFL.out]; rfl) (cells_all _) ?_)
  have HR2 := setRow_heap _ _ _ (cellsOf g).toArray _ _ HN2.out
  have HB2 : Below w1.heap.size w1 ((w1.alloc (.cells #[Value.int IntKind.u8 0, Value.int IntKind.u8 0, Value.int IntKind.u8 0, Value.int IntKind.u8 0, Value.int IntKind.u8 0, Value.int IntKind.u8 0, Value.int IntKind.u8 0, Value.int IntKind.u8 0, Value.int IntKind.u8 0, Value.int IntKind.u8 0, Value.int IntKind.u8 0, Value.int IntKind.u8 0, Value.int IntKind.u8 0, Value.int IntKind.u8 0, Value.int IntKind.u8 0, Value.int IntKind.u8 0, Value.int IntKind.u8 0, Value.int IntKind.u8 0, Value.int IntKind.u8 0, Value.int IntKind.u8 0, Value.int IntKind.u8 0, Value.int IntKind.u8 0, Value.int IntKind.u8 0, Value.int IntKind.u8 0, Value.int IntKind.u8 0, Value.int IntKind.u8 0, Value.int IntKind.u8 0, Value.int IntKind.u8 0, Value.int IntKind.u8 0, Value.int IntKind.u8 0, Value.int IntKind.u8 0, Value.int IntKind.u8 0] 24)).setRow w1.heap.size (cellsOf g).toArray) := below_row (bel_alloc w1 _) (Nat.le_refl _) _
  obtain ⟨w2, HW2⟩ : ∃ W, Hid ((w1.alloc (.cells #[Value.int IntKind.u8 0, Value.int IntKind.u8 0, Value.int IntKind.u8 0, Value.int IntKind.u8 0, Value.int IntKind.u8 0, Value.int IntKind.u8 0, Value.int IntKind.u8 0, Value.int IntKind.u8 0, Value.int IntKind.u8 0, Value.int IntKind.u8 0, Value.int IntKind.u8 0, Value.int IntKind.u8 0, Value.int IntKind.u8 0, Value.int IntKind.u8 0, Value.int IntKind.u8 0, Value.int IntKind.u8 0, Value.int IntKind.u8 0, Value.int IntKind.u8 0, Value.int IntKind.u8 0, Value.int IntKind.u8 0, Value.int IntKind.u8 0, Value.int IntKind.u8 0, Value.int IntKind.u8 0, Value.int IntKind.u8 0, Value.int IntKind.u8 0, Value.int IntKind.u8 0, Value.int IntKind.u8 0, Value.int IntKind.u8 0, Value.int IntKind.u8 0, Value.int IntKind.u8 0, Value.int IntKind.u8 0, Value.int IntKind.u8 0] 24)).setRow w1.heap.size (cellsOf g).toArray = W) := ⟨_, rfl⟩
  rw [HW2.out] at HR2 HB2 ⊢
  have HR2 : Hid _ := HR2
  have HN3 : Hid (w2.heap[w.heap.size]? = some (.cells #[Value.int IntKind.u8 0, Value.int IntKind.u8 0, Value.int IntKind.u8 0, Value.int IntKind.u8 0, Value.int IntKind.u8 0, Value.int IntKind.u8 0, Value.int IntKind.u8 0, Value.int IntKind.u8 0, Value.int IntKind.u8 0, Value.int IntKind.u8 0, Value.int IntKind.u8 0, Value.int IntKind.u8 0, Value.int IntKind.u8 0, Value.int IntKind.u8 0, Value.int IntKind.u8 0, Value.int IntKind.u8 0, Value.int IntKind.u8 0, Value.int IntKind.u8 0, Value.int IntKind.u8 0, Value.int IntKind.u8 0, Value.int IntKind.u8 0, Value.int IntKind.u8 0, Value.int IntKind.u8 0, Value.int IntKind.u8 0, Value.int IntKind.u8 0, Value.int IntKind.u8 0, Value.int IntKind.u8 0, Value.int IntKind.u8 0, Value.int IntKind.u8 0, Value.int IntKind.u8 0, Value.int IntKind.u8 0, Value.int IntKind.u8 0] 24 (0, 0))) := (HB2.block _ HS1.out).trans HN1.out
  have HBW : Hid (Below w.heap.size w w2) := HB1.out.trans (HB2.mono HB1.out.size)
  clear HW2 HN2 HB2
  have hwn := HWN.out
  have hwx := HWX.out
  go_wp2_with fail
  refine (HB.out _ HBW.out).mono ?_
  rintro e w3 ⟨g2, u2, ok2, rfl, hov, hb3⟩
  have HOV : Hid (OvV z ls c d a b ds (nodeD z g g2) (wrap64 ((U : Int) + u2)) ok2) := HRE.out g2 u2 ok2 hov
  have HGL : Hid (g2.length = 32) := hov.1
  have HIG : Hid ((Tryd.prog.info? 24).map (·.size) = some (cellsOf g2).toArray.size) := by show _ = _; rw [size24, dig_size hov.1]
  have HND : Hid (∀ W, Calls Tryd.prog 27 #[.int .i64 z, .agg (cellsOf g).toArray, .agg (cellsOf g2).toArray] W fun e w' => e = .returned (dv (nodeD z g g2)) ∧ Below W.heap.size W w') := fun W => HNG.out g2 W hov.1
  have HB23 : Hid (Below w2.heap.size w2 w3) := hb3
  clear hov hb3 hwn hwx HA HB HHF HLE HRE HNG
  obtain ⟨nd, HNDD⟩ : ∃ d, Hid (nodeD z g g2 = d) := ⟨_, rfl⟩
  rw [HNDD.out] at HOV HND
  have HNL : Hid (nd.length = 32) := by show _ = _; rw [← HNDD.out]; exact nodeD_length _ _ _
  unfold dv
  have HN4 : Hid ((w3.alloc (.cells #[Value.int IntKind.u8 0, Value.int IntKind.u8 0, Value.int IntKind.u8 0, Value.int IntKind.u8 0, Value.int IntKind.u8 0, Value.int IntKind.u8 0, Value.int IntKind.u8 0, Value.int IntKind.u8 0, Value.int IntKind.u8 0, Value.int IntKind.u8 0, Value.int IntKind.u8 0, Value.int IntKind.u8 0, Value.int IntKind.u8 0, Value.int IntKind.u8 0, Value.int IntKind.u8 0, Value.int IntKind.u8 0, Value.int IntKind.u8 0, Value.int IntKind.u8 0, Value.int IntKind.u8 0, Value.int IntKind.u8 0, Value.int IntKind.u8 0, Value.int IntKind.u8 0, Value.int IntKind.u8 0, Value.int IntKind.u8 0, Value.int IntKind.u8 0, Value.int IntKind.u8 0, Value.int IntKind.u8 0, Value.int IntKind.u8 0, Value.int IntKind.u8 0, Value.int IntKind.u8 0, Value.int IntKind.u8 0, Value.int IntKind.u8 0] 24)).heap[w3.heap.size]? = some (.cells #[Value.int IntKind.u8 0, Value.int IntKind.u8 0, Value.int IntKind.u8 0, Value.int IntKind.u8 0, Value.int IntKind.u8 0, Value.int IntKind.u8 0, Value.int IntKind.u8 0, Value.int IntKind.u8 0, Value.int IntKind.u8 0, Value.int IntKind.u8 0, Value.int IntKind.u8 0, Value.int IntKind.u8 0, Value.int IntKind.u8 0, Value.int IntKind.u8 0, Value.int IntKind.u8 0, Value.int IntKind.u8 0, Value.int IntKind.u8 0, Value.int IntKind.u8 0, Value.int IntKind.u8 0, Value.int IntKind.u8 0, Value.int IntKind.u8 0, Value.int IntKind.u8 0, Value.int IntKind.u8 0, Value.int IntKind.u8 0, Value.int IntKind.u8 0, Value.int IntKind.u8 0, Value.int IntKind.u8 0, Value.int IntKind.u8 0, Value.int IntKind.u8 0, Value.int IntKind.u8 0, Value.int IntKind.u8 0, Value.int IntKind.u8 0] 24 (0, 0))) := heap_alloc_new w3 _
  go_upto_region 12 with (refine wpList_store_row rfl 24 (.tmp 17) (.tmp 74) rfl w3.heap.size (cellsOf g2).toArray rfl rfl 24 _ HN4.out (by rw [size24, dig_size HGL.out]) (by rw [dig_size HGL.out]; rfl) (cells_all _) ?_)
  have HR4 := setRow_heap _ _ _ (cellsOf g2).toArray _ _ HN4.out
  have HB4 : Below w3.heap.size w3 ((w3.alloc (.cells #[Value.int IntKind.u8 0, Value.int IntKind.u8 0, Value.int IntKind.u8 0, Value.int IntKind.u8 0, Value.int IntKind.u8 0, Value.int IntKind.u8 0, Value.int IntKind.u8 0, Value.int IntKind.u8 0, Value.int IntKind.u8 0, Value.int IntKind.u8 0, Value.int IntKind.u8 0, Value.int IntKind.u8 0, Value.int IntKind.u8 0, Value.int IntKind.u8 0, Value.int IntKind.u8 0, Value.int IntKind.u8 0, Value.int IntKind.u8 0, Value.int IntKind.u8 0, Value.int IntKind.u8 0, Value.int IntKind.u8 0, Value.int IntKind.u8 0, Value.int IntKind.u8 0, Value.int IntKind.u8 0, Value.int IntKind.u8 0, Value.int IntKind.u8 0, Value.int IntKind.u8 0, Value.int IntKind.u8 0, Value.int IntKind.u8 0, Value.int IntKind.u8 0, Value.int IntKind.u8 0, Value.int IntKind.u8 0, Value.int IntKind.u8 0] 24)).setRow w3.heap.size (cellsOf g2).toArray) := below_row (bel_alloc w3 _) (Nat.le_refl _) _
  obtain ⟨w4, HW4⟩ : ∃ W, Hid ((w3.alloc (.cells #[Value.int IntKind.u8 0, Value.int IntKind.u8 0, Value.int IntKind.u8 0, Value.int IntKind.u8 0, Value.int IntKind.u8 0, Value.int IntKind.u8 0, Value.int IntKind.u8 0, Value.int IntKind.u8 0, Value.int IntKind.u8 0, Value.int IntKind.u8 0, Value.int IntKind.u8 0, Value.int IntKind.u8 0, Value.int IntKind.u8 0, Value.int IntKind.u8 0, Value.int IntKind.u8 0, Value.int IntKind.u8 0, Value.int IntKind.u8 0, Value.int IntKind.u8 0, Value.int IntKind.u8 0, Value.int IntKind.u8 0, Value.int IntKind.u8 0, Value.int IntKind.u8 0, Value.int IntKind.u8 0, Value.int IntKind.u8 0, Value.int IntKind.u8 0, Value.int IntKind.u8 0, Value.int IntKind.u8 0, Value.int IntKind.u8 0, Value.int IntKind.u8 0, Value.int IntKind.u8 0, Value.int IntKind.u8 0, Value.int IntKind.u8 0] 24)).setRow w3.heap.size (cellsOf g2).toArray = W) := ⟨_, rfl⟩
  rw [HW4.out] at HR4 HB4 ⊢
  have HR4 : Hid _ := HR4
  have HB24 : Hid (Below w2.heap.size w2 w4) := HB23.out.trans (HB4.mono HB23.out.size)
  have HR24 : Hid (w4.heap[w1.heap.size]? = some (.cells (cellsOf g).toArray 24 (0, 0))) := (HB24.out.block _ (Array.getElem?_eq_some_iff.1 HR2.out).1).trans HR2.out
  clear HW4 HN4 HB4
  go_wp2_with (first | (refine wpList_load_row rfl 24 (.tmp 14) rfl w1.heap.size rfl 24 (cellsOf g).toArray (0, 0) _ HR24.out Tryd.underlying24 rfl HIF.out ?_) | (refine wpList_load_row rfl 24 (.tmp 17) rfl w3.heap.size rfl 24 (cellsOf g2).toArray (0, 0) _ HR4.out Tryd.underlying24 rfl HIG.out ?_))
  refine (HND.out _).mono ?_
  rintro e w5 ⟨rfl, hb5⟩
  have HB25 : Hid (Below w2.heap.size w2 w5) := HB24.out.trans (hb5.mono HB24.out.size)
  have HN5 : Hid (w5.heap[w.heap.size]? = some (.cells #[Value.int IntKind.u8 0, Value.int IntKind.u8 0, Value.int IntKind.u8 0, Value.int IntKind.u8 0, Value.int IntKind.u8 0, Value.int IntKind.u8 0, Value.int IntKind.u8 0, Value.int IntKind.u8 0, Value.int IntKind.u8 0, Value.int IntKind.u8 0, Value.int IntKind.u8 0, Value.int IntKind.u8 0, Value.int IntKind.u8 0, Value.int IntKind.u8 0, Value.int IntKind.u8 0, Value.int IntKind.u8 0, Value.int IntKind.u8 0, Value.int IntKind.u8 0, Value.int IntKind.u8 0, Value.int IntKind.u8 0, Value.int IntKind.u8 0, Value.int IntKind.u8 0, Value.int IntKind.u8 0, Value.int IntKind.u8 0, Value.int IntKind.u8 0, Value.int IntKind.u8 0, Value.int IntKind.u8 0, Value.int IntKind.u8 0, Value.int IntKind.u8 0, Value.int IntKind.u8 0, Value.int IntKind.u8 0, Value.int IntKind.u8 0] 24 (0, 0))) := (HB25.out.block _ (Array.getElem?_eq_some_iff.1 HN3.out).1).trans HN3.out
  have HBW5 : Hid (Below w.heap.size w w5) := HBW.out.trans (HB25.out.mono HBW.out.size)
  clear hb5
  unfold dv
  go_wp2_with (refine wpList_store_row rfl 24 (.tmp 10) (.tmp 80) rfl w.heap.size (cellsOf nd).toArray rfl rfl 24 _ HN5.out (by rw [size24, dig_size HNL.out]) (by rw [dig_size HNL.out]; rfl) (cells_all _) ?_)
  refine bodyPost_ret (results_dig_two rfl _ _ w.heap.size 24 (cellsOf nd).toArray (0, 0) rfl (setRow_heap _ _ _ _ _ _ HN5.out) (by rw [dig_size HNL.out])) rfl ?_
  exact ⟨nd, _, ok2, rfl, HOV.out, below_row HBW5.out (Nat.le_refl _) _⟩
set_option maxRecDepth 100000 in
set_option maxHeartbeats 4000000 in
theorem over_two_ne (z : Int) (ls : List LV) (c d a b n : Nat) (x y : Int) (po : Option Addr) (q pc : Nat) (pb pf L cp : Nat) (U : Nat) (FL : List UInt8) (ds : List (List UInt8)) (w : World) (h2 : 2 ≤ n) (hn : n ≤ 9223372036854775807) (hw : wrap64 (x + (q : Int)) = y) (hy : ¬ y ≤ 0) (hx : ¬ (n : Int) ≤ x) (hU : ¬ cp = U) (hLc : L ≤ cp) (hUL : U ≤ L) (hz : -9223372036854775808 ≤ z ∧ z ≤ 9223372036854775807) (x2 : Int) (hx2 : wrap64 (x - ((halfN n : Nat) : Int)) = x2)
    (hleft : ∀ g u ok, OvV z ls c d a (a + halfN n) ds g u ok → ok = true ∧ u = (U : Int) ∧ g = FL) (hFL : FL.length = 32)
    (hres : ∀ g u ok, OvV z ls c d (a + halfN n) b (ds.drop U) g u ok → OvV z ls c d a b ds (nodeD z FL g) (wrap64 ((U : Int) + u)) ok)
    (HA : Hid (∀ W, Below w.heap.size w W → Calls Tryd.prog 70 #[.int .i64 z, .int .i64 ((halfN n : Nat) : Int), .int .i64 x, .slice po q pc, .slice (some ⟨pb, pf, none⟩) L cp] W (OvR z ls c d a (a + halfN n) ds W)))
    (HB : Hid (∀ W, Below w.heap.size w W → Calls Tryd.prog 70 #[.int .i64 z, .int .i64 ((n - halfN n : Nat) : Int), .int .i64 x2, .slice po q pc, .slice (some ⟨pb, pf + U * 32, none⟩) (L - U) (cp - U)] W (OvR z ls c d (a + halfN n) b (ds.drop U) W))) :
    Calls Tryd.prog 70 #[.int .i64 z, .int .i64 (n : Int), .int .i64 x, .slice po q pc, .slice (some ⟨pb, pf, none⟩) L cp] w (OvR z ls c d a b ds w) := by
  have HHF : Hid (∀ W, Calls Tryd.prog 61 #[.int .i64 (n : Int)] W fun e w' => e = .returned (.int .i64 ((halfN n : Nat) : Int)) ∧ w' = W) := fun W => refHalf_any n W h2 hn
  obtain ⟨s1, s2, -⟩ := halfN_spec n h2 hn
  have hyd : decide (y ≤ 0) = false := decide_eq_false hy
  have hxd : decide ((n : Int) ≤ x) = false := decide_eq_false hx
  have y1 : ((n : Int) == 1) = false := by simp; omega
  have HWN : Hid (wrap64 ((n : Int) - ((halfN n : Nat) : Int)) = ((n - halfN n : Nat) : Int)) := wsub (Nat.le_of_lt s2) hn
  have HWX : Hid (wrap64 (x - ((halfN n : Nat) : Int)) = x2) := hx2
  have HLE : Hid (∀ g u ok, OvV z ls c d a (a + halfN n) ds g u ok → ok = true ∧ u = (U : Int) ∧ g = FL) := hleft
  have HRE : Hid (∀ g u ok, OvV z ls c d (a + halfN n) b (ds.drop U) g u ok → OvV z ls c d a b ds (nodeD z FL g) (wrap64 ((U : Int) + u)) ok) := hres
  have HNG : Hid (∀ (g : List UInt8) W, g.length = 32 → Calls Tryd.prog 27 #[.int .i64 z, .agg (cellsOf FL).toArray, .agg (cellsOf g).toArray] W fun e w' => e = .returned (dv (nodeD z FL g)) ∧ Below W.heap.size W w') := fun g W hg => refNode_any z FL g W hFL hg hz
  have HFL : Hid (FL.length = 32) := hFL
  have HIF : Hid ((Tryd.prog.info? 24).map (·.size) = some (cellsOf FL).toArray.size) := by show _ = _; rw [size24, dig_size hFL]
  obtain ⟨k, HK⟩ : ∃ k, Hid (halfN n = k) := ⟨_, rfl⟩
  rw [HK.out] at HHF HA HB HLE HRE HWN HWX s1 s2
  have hz1 : (U : Int) ≤ (L : Int) := by omega
  have hz2 : (L : Int) ≤ (cp : Int) := by omega
  have hz3 : cp - U ≠ 0 := by omega
  clear h2 hn s1 s2 hz hx2 hleft hres hFL
  go_enter Tryd.func70, Tryd.ntmps70
  have HN0 : Hid ((w.alloc (.cells #[Value.int IntKind.u8 0, Value.int IntKind.u8 0, Value.int IntKind.u8 0, Value.int IntKind.u8 0, Value.int IntKind.u8 0, Value.int IntKind.u8 0, Value.int IntKind.u8 0, Value.int IntKind.u8 0, Value.int IntKind.u8 0, Value.int IntKind.u8 0, Value.int IntKind.u8 0, Value.int IntKind.u8 0, Value.int IntKind.u8 0, Value.int IntKind.u8 0, Value.int IntKind.u8 0, Value.int IntKind.u8 0, Value.int IntKind.u8 0, Value.int IntKind.u8 0, Value.int IntKind.u8 0, Value.int IntKind.u8 0, Value.int IntKind.u8 0, Value.int IntKind.u8 0, Value.int IntKind.u8 0, Value.int IntKind.u8 0, Value.int IntKind.u8 0, Value.int IntKind.u8 0, Value.int IntKind.u8 0, Value.int IntKind.u8 0, Value.int IntKind.u8 0, Value.int IntKind.u8 0, Value.int IntKind.u8 0, Value.int IntKind.u8 0] 24)).heap[w.heap.size]? = some (.cells #[Value.int IntKind.u8 0, Value.int IntKind.u8 0, Value.int IntKind.u8 0, Value.int IntKind.u8 0, Value.int IntKind.u8 0, Value.int IntKind.u8 0, Value.int IntKind.u8 0, Value.int IntKind.u8 0, Value.int IntKind.u8 0, Value.int IntKind.u8 0, Value.int IntKind.u8 0, Value.int IntKind.u8 0, Value.int IntKind.u8 0, Value.int IntKind.u8 0, Value.int IntKind.u8 0, Value.int IntKind.u8 0, Value.int IntKind.u8 0, Value.int IntKind.u8 0, Value.int IntKind.u8 0, Value.int IntKind.u8 0, Value.int IntKind.u8 0, Value.int IntKind.u8 0, Value.int IntKind.u8 0, Value.int IntKind.u8 0, Value.int IntKind.u8 0, Value.int IntKind.u8 0, Value.int IntKind.u8 0, Value.int IntKind.u8 0, Value.int IntKind.u8 0, Value.int IntKind.u8 0, Value.int IntKind.u8 0, Value.int IntKind.u8 0] 24 (0, 0))) := heap_alloc_new w _
  have HB0 : Hid (Below w.heap.size w (w.alloc (.cells #[Value.int IntKind.u8 0, Value.int IntKind.u8 0, Value.int IntKind.u8 0, Value.int IntKind.u8 0, Value.int IntKind.u8 0, Value.int IntKind.u8 0, Value.int IntKind.u8 0, Value.int IntKind.u8 0, Value.int IntKind.u8 0, Value.int IntKind.u8 0, Value.int IntKind.u8 0, Value.int IntKind.u8 0, Value.int IntKind.u8 0, Value.int IntKind.u8 0, Value.int IntKind.u8 0, Value.int IntKind.u8 0, Value.int IntKind.u8 0, Value.int IntKind.u8 0, Value.int IntKind.u8 0, Value.int IntKind.u8 0, Value.int IntKind.u8 0, Value.int IntKind.u8 0, Value.int IntKind.u8 0, Value.int IntKind.u8 0, Value.int IntKind.u8 0, Value.int IntKind.u8 0, Value.int IntKind.u8 0, Value.int IntKind.u8 0, Value.int IntKind.u8 0, Value.int IntKind.u8 0, Value.int IntKind.u8 0, Value.int IntKind.u8 0] 24))) := bel_alloc w _
  go_wp2_with fail
  obtain ⟨W0, HW0⟩ : ∃ W, Hid (w.alloc (.cells #[Value.int IntKind.u8 0, Value.int IntKind.u8 0, Value.int IntKind.u8 0, Value.int IntKind.u8 0, Value.int IntKind.u8 0, Value.int IntKind.u8 0, Value.int IntKind.u8 0, Value.int IntKind.u8 0, Value.int IntKind.u8 0, Value.int IntKind.u8 0, Value.int IntKind.u8 0, Value.int IntKind.u8 0, Value.int IntKind.u8 0, Value.int IntKind.u8 0, Value.int IntKind.u8 0, Value.int IntKind.u8 0, Value.int IntKind.u8 0, Value.int IntKind.u8 0, Value.int IntKind.u8 0, Value.int IntKind.u8 0, Value.int IntKind.u8 0, Value.int IntKind.u8 0, Value.int IntKind.u8 0, Value.int IntKind.u8 0, Value.int IntKind.u8 0, Value.int IntKind.u8 0, Value.int IntKind.u8 0, Value.int IntKind.u8 0, Value.int IntKind.u8 0, Value.int IntKind.u8 0, Value.int IntKind.u8 0, Value.int IntKind.u8 0] 24) = W) := ⟨_, rfl⟩
  rw [HW0.out] at HN0 HB0 ⊢
  clear HW0 hyd hxd y1 hw hy hx
  refine (HHF.out _).mono ?_
  rintro e wx ⟨rfl, hwx⟩
  rw [hwx]
  clear hwx wx
  go_wp2_with fail
  refine (HA.out _ HB0.out).mono ?_
  rintro e w1 ⟨g, u, ok, rfl, hov, hb1⟩
  obtain ⟨hok, hu, hg⟩ := HLE.out g u ok hov
  subst hok hu hg
  have HN1 : Hid (w1.heap[w.heap.size]? = some (.cells #[Value.int IntKind.u8 0, Value.int IntKind.u8 0, Value.int IntKind.u8 0, Value.int IntKind.u8 0, Value.int IntKind.u8 0, Value.int IntKind.u8 0, Value.int IntKind.u8 0, Value.int IntKind.u8 0, Value.int IntKind.u8 0, Value.int IntKind.u8 0, Value.int IntKind.u8 0, Value.int IntKind.u8 0, Value.int IntKind.u8 0, Value.int IntKind.u8 0, Value.int IntKind.u8 0, Value.int IntKind.u8 0, Value.int IntKind.u8 0, Value.int IntKind.u8 0, Value.int IntKind.u8 0, Value.int IntKind.u8 0, Value.int IntKind.u8 0, Value.int IntKind.u8 0, Value.int IntKind.u8 0, Value.int IntKind.u8 0, Value.int IntKind.u8 0, Value.int IntKind.u8 0, Value.int IntKind.u8 0, Value.int IntKind.u8 0, Value.int IntKind.u8 0, Value.int IntKind.u8 0, Value.int IntKind.u8 0, Value.int IntKind.u8 0] 24 (0, 0))) := (hb1.block _ (Array.getElem?_eq_some_iff.1 HN0.out).1).trans HN0.out
  have HB1 : Hid (Below w.heap.size w w1) := HB0.out.trans (hb1.mono HB0.out.size)
  have HS1 : Hid (w.heap.size < w1.heap.size) := (Array.getElem?_eq_some_iff.1 HN1.out).1
  clear hov hb1
  unfold dv
  have HN2 : Hid ((w1.alloc (.cells #[Value.int IntKind.u8 0, Value.int IntKind.u8 0, Value.int IntKind.u8 0, Value.int IntKind.u8 0, Value.int IntKind.u8 0, Value.int IntKind.u8 0, Value.int IntKind.u8 0, Value.int IntKind.u8 0, Value.int IntKind.u8 0, Value.int IntKind.u8 0, Value.int IntKind.u8 0, Value.int IntKind.u8 0, Value.int IntKind.u8 0, Value.int IntKind.u8 0, Value.int IntKind.u8 0, Value.int IntKind.u8 0, Value.int IntKind.u8 0, Value.int IntKind.u8 0, Value.int IntKind.u8 0, Value.int IntKind.u8 0, Value.int IntKind.u8 0, Value.int IntKind.u8 0, Value.int IntKind.u8 0, Value.int IntKind.u8 0, Value.int IntKind.u8 0, Value.int IntKind.u8 0, Value.int IntKind.u8 0, Value.int IntKind.u8 0, Value.int IntKind.u8 0, Value.int IntKind.u8 0, Value.int IntKind.u8 0, Value.int IntKind.u8 0] 24)).heap[w1.heap.size]? = some (.cells #[Value.int IntKind.u8 0, Value.int IntKind.u8 0, Value.int IntKind.u8 0, Value.int IntKind.u8 0, Value.int IntKind.u8 0, Value.int IntKind.u8 0, Value.int IntKind.u8 0, Value.int IntKind.u8 0, Value.int IntKind.u8 0, Value.int IntKind.u8 0, Value.int IntKind.u8 0, Value.int IntKind.u8 0, Value.int IntKind.u8 0, Value.int IntKind.u8 0, Value.int IntKind.u8 0, Value.int IntKind.u8 0, Value.int IntKind.u8 0, Value.int IntKind.u8 0, Value.int IntKind.u8 0, Value.int IntKind.u8 0, Value.int IntKind.u8 0, Value.int IntKind.u8 0, Value.int IntKind.u8 0, Value.int IntKind.u8 0, Value.int IntKind.u8 0, Value.int IntKind.u8 0, Value.int IntKind.u8 0, Value.int IntKind.u8 0, Value.int IntKind.u8 0, Value.int IntKind.u8 0, Value.int IntKind.u8 0, Value.int IntKind.u8 0] 24 (0, 0))) := heap_alloc_new w1 _
  go_upto_region 9 with (refine wpList_store_row rfl 24 (.tmp 14) (.tmp 55) rfl w1.heap.size (cellsOf g).toArray rfl rfl 24 _ HN2.out (by rw [size24, dig_size HFL.out]) (by rw [dig_size HFL.out]; rfl) (cells_all _) ?_)
  have HR2 := setRow_heap _ _ _ (cellsOf g).toArray _ _ HN2.out
  have HB2 : Below w1.heap.size w1 ((w1.alloc (.cells #[Value.int IntKind.u8 0, Value.int IntKind.u8 0, Value.int IntKind.u8 0, Value.int IntKind.u8 0, Value.int IntKind.u8 0, Value.int IntKind.u8 0, Value.int IntKind.u8 0, Value.int IntKind.u8 0, Value.int IntKind.u8 0, Value.int IntKind.u8 0, Value.int IntKind.u8 0, Value.int IntKind.u8 0, Value.int IntKind.u8 0, Value.int IntKind.u8 0, Value.int IntKind.u8 0, Value.int IntKind.u8 0, Value.int IntKind.u8 0, Value.int IntKind.u8 0, Value.int IntKind.u8 0, Value.int IntKind.u8 0, Value.int IntKind.u8 0, Value.int IntKind.u8 0, Value.int IntKind.u8 0, Value.int IntKind.u8 0, Value.int IntKind.u8 0, Value.int IntKind.u8 0, Value.int IntKind.u8 0, Value.int IntKind.u8 0, Value.int IntKind.u8 0, Value.int IntKind.u8 0, Value.int IntKind.u8 0, Value.int IntKind.u8 0] 24)).setRow w1.heap.size (cellsOf g).toArray) := below_row (bel_alloc w1 _) (Nat.le_refl _) _
  obtain ⟨w2, HW2⟩ : ∃ W, Hid ((w1.alloc (.cells #[Value.int IntKind.u8 0, Value.int IntKind.u8 0, Value.int IntKind.u8 0, Value.int IntKind.u8 0, Value.int IntKind.u8 0, Value.int IntKind.u8 0, Value.int IntKind.u8 0, Value.int IntKind.u8 0, Value.int IntKind.u8 0, Value.int IntKind.u8 0, Value.int IntKind.u8 0, Value.int IntKind.u8 0, Value.int IntKind.u8 0, Value.int IntKind.u8 0, Value.int IntKind.u8 0, Value.int IntKind.u8 0, Value.int IntKind.u8 0, Value.int IntKind.u8 0, Value.int IntKind.u8 0, Value.int IntKind.u8 0, Value.int IntKind.u8 0, Value.int IntKind.u8 0, Value.int IntKind.u8 0, Value.int IntKind.u8 0, Value.int IntKind.u8 0, Value.int IntKind.u8 0, Value.int IntKind.u8 0, Value.int IntKind.u8 0, Value.int IntKind.u8 0, Value.int IntKind.u8 0, Value.int IntKind.u8 0, Value.int IntKind.u8 0] 24)).setRow w1.heap.size (cellsOf g).toArray = W) := ⟨_, rfl⟩
  rw [HW2.out] at HR2 HB2 ⊢
  have HR2 : Hid _ := HR2
  have HN3 : Hid (w2.heap[w.heap.size]? = some (.cells #[Value.int IntKind.u8 0, Value.int IntKind.u8 0, Value.int IntKind.u8 0, Value.int IntKind.u8 0, Value.int IntKind.u8 0, Value.int IntKind.u8 0, Value.int IntKind.u8 0, Value.int IntKind.u8 0, Value.int IntKind.u8 0, Value.int IntKind.u8 0, Value.int IntKind.u8 0, Value.int IntKind.u8 0, Value.int IntKind.u8 0, Value.int IntKind.u8 0, Value.int IntKind.u8 0, Value.int IntKind.u8 0, Value.int IntKind.u8 0, Value.int IntKind.u8 0, Value.int IntKind.u8 0, Value.int IntKind.u8 0, Value.int IntKind.u8 0, Value.int IntKind.u8 0, Value.int IntKind.u8 0, Value.int IntKind.u8 0, Value.int IntKind.u8 0, Value.int IntKind.u8 0, Value.int IntKind.u8 0, Value.int IntKind.u8 0, Value.int IntKind.u8 0, Value.int IntKind.u8 0, Value.int IntKind.u8 0, Value.int IntKind.u8 0] 24 (0, 0))) := (HB2.block _ HS1.out).trans HN1.out
  have HBW : Hid (Below w.heap.size w w2) := HB1.out.trans (HB2.mono HB1.out.size)
  clear HW2 HN2 HB2
  have hwn := HWN.out
  have hwx := HWX.out
  go_wp2_with fail
  refine (HB.out _ HBW.out).mono ?_
  rintro e w3 ⟨g2, u2, ok2, rfl, hov, hb3⟩
  have HOV : Hid (OvV z ls c d a b ds (nodeD z g g2) (wrap64 ((U : Int) + u2)) ok2) := HRE.out g2 u2 ok2 hov
  have HGL : Hid (g2.length = 32) := hov.1
  have HIG : Hid ((Tryd.prog.info? 24).map (·.size) = some (cellsOf g2).toArray.size) := by show _ = _; rw [size24, dig_size hov.1]
  have HND : Hid (∀ W, Calls Tryd.prog 27 #[.int .i64 z, .agg (cellsOf g).toArray, .agg (cellsOf g2).toArray] W fun e w' => e = .returned (dv (nodeD z g g2)) ∧ Below W.heap.size W w') := fun W => HNG.out g2 W hov.1
  have HB23 : Hid (Below w2.heap.size w2 w3) := hb3
  clear hov hb3 hwn hwx hz1 hz2 hz3 hU hLc hUL HA HB HHF HLE HRE HNG
  obtain ⟨nd, HNDD⟩ : ∃ d, Hid (nodeD z g g2 = d) := ⟨_, rfl⟩
  rw [HNDD.out] at HOV HND
  have HNL : Hid (nd.length = 32) := by show _ = _; rw [← HNDD.out]; exact nodeD_length _ _ _
  unfold dv
  have HN4 : Hid ((w3.alloc (.cells #[Value.int IntKind.u8 0, Value.int IntKind.u8 0, Value.int IntKind.u8 0, Value.int IntKind.u8 0, Value.int IntKind.u8 0, Value.int IntKind.u8 0, Value.int IntKind.u8 0, Value.int IntKind.u8 0, Value.int IntKind.u8 0, Value.int IntKind.u8 0, Value.int IntKind.u8 0, Value.int IntKind.u8 0, Value.int IntKind.u8 0, Value.int IntKind.u8 0, Value.int IntKind.u8 0, Value.int IntKind.u8 0, Value.int IntKind.u8 0, Value.int IntKind.u8 0, Value.int IntKind.u8 0, Value.int IntKind.u8 0, Value.int IntKind.u8 0, Value.int IntKind.u8 0, Value.int IntKind.u8 0, Value.int IntKind.u8 0, Value.int IntKind.u8 0, Value.int IntKind.u8 0, Value.int IntKind.u8 0, Value.int IntKind.u8 0, Value.int IntKind.u8 0, Value.int IntKind.u8 0, Value.int IntKind.u8 0, Value.int IntKind.u8 0] 24)).heap[w3.heap.size]? = some (.cells #[Value.int IntKind.u8 0, Value.int IntKind.u8 0, Value.int IntKind.u8 0, Value.int IntKind.u8 0, Value.int IntKind.u8 0, Value.int IntKind.u8 0, Value.int IntKind.u8 0, Value.int IntKind.u8 0, Value.int IntKind.u8 0, Value.int IntKind.u8 0, Value.int IntKind.u8 0, Value.int IntKind.u8 0, Value.int IntKind.u8 0, Value.int IntKind.u8 0, Value.int IntKind.u8 0, Value.int IntKind.u8 0, Value.int IntKind.u8 0, Value.int IntKind.u8 0, Value.int IntKind.u8 0, Value.int IntKind.u8 0, Value.int IntKind.u8 0, Value.int IntKind.u8 0, Value.int IntKind.u8 0, Value.int IntKind.u8 0, Value.int IntKind.u8 0, Value.int IntKind.u8 0, Value.int IntKind.u8 0, Value.int IntKind.u8 0, Value.int IntKind.u8 0, Value.int IntKind.u8 0, Value.int IntKind.u8 0, Value.int IntKind.u8 0] 24 (0, 0))) := heap_alloc_new w3 _
  go_upto_region 12 with (refine wpList_store_row rfl 24 (.tmp 17) (.tmp 74) rfl w3.heap.size (cellsOf g2).toArray rfl rfl 24 _ HN4.out (by rw [size24, dig_size HGL.out]) (by rw [dig_size HGL.out]; rfl) (cells_all _) ?_)
  have HR4 := setRow_heap _ _ _ (cellsOf g2).toArray _ _ HN4.out
  have HB4 : Below w3.heap.size w3 ((w3.alloc (.cells #[Value.int IntKind.u8 0, Value.int IntKind.u8 0, Value.int IntKind.u8 0, Value.int IntKind.u8 0, Value.int IntKind.u8 0, Value.int IntKind.u8 0, Value.int IntKind.u8 0, Value.int IntKind.u8 0, Value.int IntKind.u8 0, Value.int IntKind.u8 0, Value.int IntKind.u8 0, Value.int IntKind.u8 0, Value.int IntKind.u8 0, Value.int IntKind.u8 0, Value.int IntKind.u8 0, Value.int IntKind.u8 0, Value.int IntKind.u8 0, Value.int IntKind.u8 0, Value.int IntKind.u8 0, Value.int IntKind.u8 0, Value.int IntKind.u8 0, Value.int IntKind.u8 0, Value.int IntKind.u8 0, Value.int IntKind.u8 0, Value.int IntKind.u8 0, Value.int IntKind.u8 0, Value.int IntKind.u8 0, Value.int IntKind.u8 0, Value.int IntKind.u8 0, Value.int IntKind.u8 0, Value.int IntKind.u8 0, Value.int IntKind.u8 0] 24)).setRow w3.heap.size (cellsOf g2).toArray) := below_row (bel_alloc w3 _) (Nat.le_refl _) _
  obtain ⟨w4, HW4⟩ : ∃ W, Hid ((w3.alloc (.cells #[Value.int IntKind.u8 0, Value.int IntKind.u8 0, Value.int IntKind.u8 0, Value.int IntKind.u8 0, Value.int IntKind.u8 0, Value.int IntKind.u8 0, Value.int IntKind.u8 0, Value.int IntKind.u8 0, Value.int IntKind.u8 0, Value.int IntKind.u8 0, Value.int IntKind.u8 0, Value.int IntKind.u8 0, Value.int IntKind.u8 0, Value.int IntKind.u8 0, Value.int IntKind.u8 0, Value.int IntKind.u8 0, Value.int IntKind.u8 0, Value.int IntKind.u8 0, Value.int IntKind.u8 0, Value.int IntKind.u8 0, Value.int IntKind.u8 0, Value.int IntKind.u8 0, Value.int IntKind.u8 0, Value.int IntKind.u8 0, Value.int IntKind.u8 0, Value.int IntKind.u8 0, Value.int IntKind.u8 0, Value.int IntKind.u8 0, Value.int IntKind.u8 0, Value.int IntKind.u8 0, Value.int IntKind.u8 0, Value.int IntKind.u8 0] 24)).setRow w3.heap.size (cellsOf g2).toArray = W) := ⟨_, rfl⟩
  rw [HW4.out] at HR4 HB4 ⊢
  have HR4 : Hid _ := HR4
  have HB24 : Hid (Below w2.heap.size w2 w4) := HB23.out.trans (HB4.mono HB23.out.size)
  have HR24 : Hid (w4.heap[w1.heap.size]? = some (.cells (cellsOf g).toArray 24 (0, 0))) := (HB24.out.block _ (Array.getElem?_eq_some_iff.1 HR2.out).1).trans HR2.out
  clear HW4 HN4 HB4
  go_wp2_with (first | (refine wpList_load_row rfl 24 (.tmp 14) rfl w1.heap.size rfl 24 (cellsOf g).toArray (0, 0) _ HR24.out Tryd.underlying24 rfl HIF.out ?_) | (refine wpList_load_row rfl 24 (.tmp 17) rfl w3.heap.size rfl 24 (cellsOf g2).toArray (0, 0) _ HR4.out Tryd.underlying24 rfl HIG.out ?_))
  refine (HND.out _).mono ?_
  rintro e w5 ⟨rfl, hb5⟩
  have HB25 : Hid (Below w2.heap.size w2 w5) := HB24.out.trans (hb5.mono HB24.out.size)
  have HN5 : Hid (w5.heap[w.heap.size]? = some (.cells #[Value.int IntKind.u8 0, Value.int IntKind.u8 0, Value.int IntKind.u8 0, Value.int IntKind.u8 0, Value.int IntKind.u8 0, Value.int IntKind.u8 0, Value.int IntKind.u8 0, Value.int IntKind.u8 0, Value.int IntKind.u8 0, Value.int IntKind.u8 0, Value.int IntKind.u8 0, Value.int IntKind.u8 0, Value.int IntKind.u8 0, Value.int IntKind.u8 0, Value.int IntKind.u8 0, Value.int IntKind.u8 0, Value.int IntKind.u8 0, Value.int IntKind.u8 0, Value.int IntKind.u8 0, Value.int IntKind.u8 0, Value.int IntKind.u8 0, Value.int IntKind.u8 0, Value.int IntKind.u8 0, Value.int IntKind.u8 0, Value.int IntKind.u8 0, Value.int IntKind.u8 0, Value.int IntKind.u8 0, Value.int IntKind.u8 0, Value.int IntKind.u8 0, Value.int IntKind.u8 0, Value.int IntKind.u8 0, Value.int IntKind.u8 0] 24 (0, 0))) := (HB25.out.block _ (Array.getElem?_eq_some_iff.1 HN3.out).1).trans HN3.out
  have HBW5 : Hid (Below w.heap.size w w5) := HBW.out.trans (HB25.out.mono HBW.out.size)
  clear hb5
  unfold dv
  go_wp2_with (refine wpList_store_row rfl 24 (.tmp 10) (.tmp 80) rfl w.heap.size (cellsOf nd).toArray rfl rfl 24 _ HN5.out (by rw [size24, dig_size HNL.out]) (by rw [dig_size HNL.out]; rfl) (cells_all _) ?_)
  refine bodyPost_ret (results_dig_two rfl _ _ w.heap.size 24 (cellsOf nd).toArray (0, 0) rfl (setRow_heap _ _ _ _ _ _ HN5.out) (by rw [dig_size HNL.out])) rfl ?_
  exact ⟨nd, _, ok2, rfl, HOV.out, below_row HBW5.out (Nat.le_refl _) _⟩
end Go.Proofs.YtaebpnednhkfhaaDoor
namespace Go.Proofs.YtaebpnednhkfhaaDoor
open Go.RowKit
theorem wsm {t : Int} (h1 : -9223372036854775808 ≤ t) (h2 : t ≤ 9223372036854775807) : wrap64 t = t := by unfold wrap64; omega
theorem PathV.drop {w : World} {b off : Nat} {ds : List (List UInt8)} (h : PathV w (some ⟨b, off, none⟩) ds) (k : Nat) : PathV w (some ⟨b, off + k * 32, none⟩) (ds.drop k) :=
  ⟨fun d hd => h.1 d (List.mem_of_mem_drop hd), fun hp => by
    obtain ⟨b', off', h1, h2⟩ := h.2 (by rw [List.length_drop] at hp; omega)
    cases h1
    refine ⟨b, off + k * 32, rfl, fun j d hj => ?_⟩
    rw [List.getElem?_drop] at hj
    have := h2 (k + j) d hj
    rw [show off + k * 32 + j * 32 = off + (k + j) * 32 by omega]
    exact this⟩
theorem ov_left {z : Int} {ls : List LV} {c d a b : Nat} {ds : List (List UInt8)} (h : (outL a b c d).length ≤ ds.length) : ∀ g u ok, OvV z ls c d a b ds g u ok → ok = true ∧ u = (((outL a b c d).length : Nat) : Int) ∧ g = fillF z ls c d 64 a b ds := fun g u ok hv => by
  have hok : ok = true := by rw [hv.2.1]; exact decide_eq_true h
  exact ⟨hok, (hv.2.2 hok).1, (hv.2.2 hok).2⟩
theorem ov_res {z : Int} {ls : List LV} {c d a b : Nat} {ds : List (List UInt8)} (hcd : c < d) (hab : a < b) (hb : b ≤ 9223372036854775807) (h1 : ¬ (b ≤ c ∨ d ≤ a)) (h2 : 2 ≤ b - a) (hl : ls.length = d - c) (h3 : ls.length ≤ 1000) (hU : (outL a (a + halfN (b - a)) c d).length ≤ ds.length) :
    ∀ g u ok, OvV z ls c d (a + halfN (b - a)) b (ds.drop (outL a (a + halfN (b - a)) c d).length) g u ok → OvV z ls c d a b ds (nodeD z (fillF z ls c d 64 a (a + halfN (b - a)) ds) g) (wrap64 ((((outL a (a + halfN (b - a)) c d).length : Nat) : Int) + u)) ok := fun g u ok hv => by
  obtain ⟨s1, s2, -⟩ := halfN_spec (b - a) h2 (by omega)
  have e := split_v hcd hab hb h1 h2
  have ht : (outL a b c d).length ≤ 127 := outL_len hcd hab hb
  have el : (outL a b c d).length = (outL a (a + halfN (b - a)) c d).length + (outL (a + halfN (b - a)) b c d).length := by rw [← List.length_append, ← e]
  refine ⟨nodeD_length _ _ _, ?_, fun hok => ?_⟩
  · rw [hv.2.1, el, List.length_drop]
    by_cases h : (outL (a + halfN (b - a)) b c d).length ≤ ds.length - (outL a (a + halfN (b - a)) c d).length
    · rw [decide_eq_true h, decide_eq_true (by omega)]
    · rw [decide_eq_false h, decide_eq_false (by omega)]
  · obtain ⟨e1, e2⟩ := hv.2.2 hok
    refine ⟨?_, ?_⟩
    · rw [e1, el, wsm (by omega) (by omega)]; omega
    · rw [e2, fill_split_v z ls ds hcd hab hb h1 h2 hl h3]
theorem refOver_any (z : Int) (hz : -9223372036854775808 ≤ z ∧ z ≤ 9223372036854775807) (ls : List LV) (c d : Nat) (hcd : c < d) (hd : d ≤ 9223372036854775807) (hl : ls.length = d - c) (h3 : ls.length ≤ 1000) (hs : ∀ s ∈ strs ls, s.size ≤ 1000) :
    ∀ (n a b : Nat) (po : Option Addr) (pc : Nat) (ao : Option Addr) (cp : Nat) (ds : List (List UInt8)) (w : World), b - a = n → a < b → b ≤ 9223372036854775807 → StrV w po (d - c) pc (strs ls) → PathV w ao ds → ds.length ≤ cp → (ao = none → cp = 0) → (0 < cp → ∃ b off, ao = some ⟨b, off, none⟩) →
    Calls Tryd.prog 70 #[.int .i64 z, .int .i64 (n : Int), .int .i64 ((c : Int) - (a : Int)), .slice po (d - c) pc, .slice ao ds.length cp] w (OvR z ls c d a b ds w) := by
  intro n
  induction n using Nat.strongRecOn with
  | ind n ih =>
    intro a b po pc ao cp ds w hn hab hb hS hP hdc h0 hcp
    have hwy : wrap64 ((c : Int) - (a : Int) + ((d - c : Nat) : Int)) = (d : Int) - (a : Int) := by rw [show (c : Int) - (a : Int) + ((d - c : Nat) : Int) = (d : Int) - (a : Int) by omega]; exact wsm (by omega) (by omega)
    by_cases h1 : b ≤ c ∨ d ≤ a
    · have hy : (d : Int) - (a : Int) ≤ 0 ∨ (¬ (d : Int) - (a : Int) ≤ 0 ∧ (n : Int) ≤ (c : Int) - (a : Int)) := by omega
      cases ds with
      | nil => exact over_apart_no z ls c d a b n _ _ po (d - c) pc ao cp w h1 hwy hy
      | cons g t =>
        obtain ⟨pb, pf, rfl, hp⟩ := hP.2 (by simp)
        have hr := hp 0 g rfl
        rw [Nat.zero_mul, Nat.add_zero] at hr
        exact over_apart_some z ls c d a b n _ _ po (d - c) pc pb pf _ cp g t w h1 hwy hy (hP.1 g (by simp)) (by simp) hr
    · by_cases hn1 : n = 1
      · subst hn1
        obtain rfl : b = a + 1 := by omega
        obtain ⟨pb, pf, rfl, hst⟩ := hS.2.2.2 (by omega)
        obtain ⟨p, hp⟩ : ∃ p, ls[a - c]? = some p := ⟨_, List.getElem?_eq_getElem (by omega)⟩
        have hlf : (strs ls)[a - c]? = some ⟨p.bs.toArray⟩ := strs_at hp
        refine over_leaf z ls c d a _ _ pb pf (d - c) pc (a - c) _ _ ds w hwy (by omega) (by omega) ?_ (by omega) (hst _ _ hlf) (hs _ (List.mem_of_getElem? hlf)) hz ?_
        · rw [show -((c : Int) - (a : Int)) = ((a - c : Nat) : Int) by omega]; exact wsm (by omega) (by omega)
        · refine ⟨leafD_length _ _, ?_, fun _ => ⟨?_, ?_⟩⟩
          · rw [outL_within h1 (by omega)]; simp
          · rw [outL_within h1 (by omega)]; rfl
          · rw [fill_within_v z ls ds h1 (by omega), show a + 1 - c = a - c + 1 by omega, partL_one ls (a - c) p hp, show bytesL [p] = [p.bs] from rfl, rootD_one, strB_mk]
      · obtain ⟨s1, s2, -⟩ := halfN_spec n (by omega) (by omega)
        have e := split_v hcd hab hb h1 (by omega)
        rw [hn] at e
        have hA : ∀ W, Below w.heap.size w W → Calls Tryd.prog 70 #[.int .i64 z, .int .i64 ((halfN n : Nat) : Int), .int .i64 ((c : Int) - (a : Int)), .slice po (d - c) pc, .slice ao ds.length cp] W (OvR z ls c d a (a + halfN n) ds W) := fun W hW =>
          ih (halfN n) (by omega) a (a + halfN n) po pc ao cp ds W (by omega) (by omega) (by omega) (hS.below hW (Nat.le_refl _)) (hP.below hW (Nat.le_refl _)) hdc h0 hcp
        have hx2 : wrap64 ((c : Int) - (a : Int) - ((halfN n : Nat) : Int)) = (c : Int) - ((a + halfN n : Nat) : Int) := by rw [show (c : Int) - (a : Int) - ((halfN n : Nat) : Int) = (c : Int) - ((a + halfN n : Nat) : Int) by omega]; exact wsm (by omega) (by omega)
        by_cases hlt : (outL a (a + halfN n) c d).length ≤ ds.length
        · have hF : (fillF z ls c d 64 a (a + halfN n) ds).length = 32 := fillF_len z ls c d 63 a (a + halfN n) ds hP.1 hlt
          have hL := ov_left (z := z) (ls := ls) hlt
          have hR := ov_res (z := z) (ls := ls) (ds := ds) hcd hab hb h1 (by omega) hl h3 (by rw [hn]; exact hlt)
          rw [hn] at hR
          obtain ⟨U, hU⟩ : ∃ U, (outL a (a + halfN n) c d).length = U := ⟨_, rfl⟩
          rw [hU] at hL hR hlt
          have hB : ∀ (ao2 : Option Addr) (cp2 : Nat) W, Below w.heap.size w W → PathV W ao2 (ds.drop U) → ds.length - U ≤ cp2 → (ao2 = none → cp2 = 0) → (0 < cp2 → ∃ b off, ao2 = some ⟨b, off, none⟩) → Calls Tryd.prog 70 #[.int .i64 z, .int .i64 ((n - halfN n : Nat) : Int), .int .i64 ((c : Int) - ((a + halfN n : Nat) : Int)), .slice po (d - c) pc, .slice ao2 (ds.length - U) cp2] W (OvR z ls c d (a + halfN n) b (ds.drop U) W) := fun ao2 cp2 W hW hp2 q1 q2 q3 => by
            have h := ih (n - halfN n) (by omega) (a + halfN n) b po pc ao2 cp2 (ds.drop U) W (by omega) (by omega) hb (hS.below hW (Nat.le_refl _)) hp2 (by rw [List.length_drop]; exact q1) q2 q3
            rw [List.length_drop] at h
            exact h
          cases ao with
          | none =>
            have hds : ds = [] := by
              cases ds with
              | nil => rfl
              | cons g t => obtain ⟨b', o', h, -⟩ := hP.2 (by simp); cases h
            subst hds
            obtain rfl := h0 rfl
            have hU0 : U = 0 := by simpa using hlt
            refine over_two_none z ls c d a b n _ _ po (d - c) pc U _ [] w (by omega) (by omega) hwy (by omega) (by omega) hU0 hz _ hx2 hL hF hR hA (fun W hW => ?_)
            subst hU0
            exact hB none 0 W hW ⟨fun d hd => by simp at hd, fun h => absurd h (by simp)⟩ (by simp) (fun _ => rfl) (fun h => absurd h (by omega))
          | some ad =>
            by_cases hc0 : cp = 0
            · subst hc0
              have hds : ds = [] := List.length_eq_zero_iff.1 (by omega)
              subst hds
              have hU0 : U = 0 := by simpa using hlt
              refine over_two_zero z ls c d a b n _ _ po (d - c) pc ad U _ [] w (by omega) (by omega) hwy (by omega) (by omega) hU0 hz _ hx2 hL hF hR hA (fun W hW => ?_)
              subst hU0
              exact hB (some ad) 0 W hW ⟨fun d hd => by simp at hd, fun h => absurd h (by simp)⟩ (by simp) (fun h => by cases h) (fun h => absurd h (by omega))
            · obtain ⟨pb, pf, hpp⟩ := hcp (by omega)
              cases hpp
              by_cases hcu : cp = U
              · have hLU : ds.length = U := by omega
                subst hcu
                rw [hLU] at hA hB ⊢
                refine over_two_eq z ls c d a b n _ _ po (d - c) pc pb pf cp _ ds w (by omega) (by omega) hwy (by omega) (by omega) hz _ hx2 hL hF hR hA (fun W hW => ?_)
                have h := hB (some ⟨pb, pf, none⟩) 0 W hW ⟨fun d hd => hP.1 d (List.mem_of_mem_drop hd), fun h => absurd h (by rw [List.length_drop]; omega)⟩ (by omega) (fun h => by cases h) (fun h => absurd h (by omega))
                rw [Nat.sub_self] at h
                exact h
              · refine over_two_ne z ls c d a b n _ _ po (d - c) pc pb pf ds.length cp U _ ds w (by omega) (by omega) hwy (by omega) (by omega) hcu hdc hlt hz _ hx2 hL hF hR hA (fun W hW => ?_)
                exact hB (some ⟨pb, pf + U * 32, none⟩) (cp - U) W hW ((hP.below hW (Nat.le_refl _)).drop U) (by omega) (fun h => by cases h) (fun _ => ⟨_, _, rfl⟩)
        · refine over_no z ls c d a b n _ _ po (d - c) pc ao ds.length cp ds w (by omega) (by omega) hwy (by omega) (by omega) hlt ?_ hA
          rw [e, List.length_append]
          omega
end Go.Proofs.YtaebpnednhkfhaaDoor
