/-
  What tree.filling's root answers: a contract over this translation. What tree.CheckRange of a tree answers: contracts over this translation. What three leaves come to. No walk.
-/
import Derived.Test.YtecacjddggljgaaDoorPartCE
namespace Go.Proofs.YtecacjddggljgaaDoor.Sm
open Go.RowKit
/-- The root of a part, of leaves that are there and of a path. -/
def fillF (z : Int) (ls : List LV) (c d : Nat) : Nat → Nat → Nat → List (List UInt8) → List UInt8
  | 0, _, _, _ => []
  | f + 1, a, b, ds => if b ≤ c ∨ d ≤ a then ds.headD [] else if c ≤ a ∧ b ≤ d then rootD z (bytesL (partL ls (a - c) (b - c))) else nodeD z (fillF z ls c d f a (a + halfN (b - a)) ds) (fillF z ls c d f (a + halfN (b - a)) b (ds.drop (outL a (a + halfN (b - a)) c d).length))
theorem fillF_len (z : Int) (ls : List LV) (c d : Nat) : ∀ (k a b : Nat) (ds : List (List UInt8)), (∀ e ∈ ds, e.length = 32) → (outL a b c d).length ≤ ds.length → (fillF z ls c d (k + 1) a b ds).length = 32 := by
  intro k a b ds hds hl
  rw [fillF]
  split
  · rename_i h1
    rw [outL_apart h1] at hl
    cases ds with
    | nil => simp at hl
    | cons e t => exact hds e (by simp)
  · split
    · exact rootD_length _ _
    · exact nodeD_length _ _ _
theorem path_tail {w : World} {pb po pc : Nat} {e : List UInt8} {ds : List (List UInt8)} {nx : Option Addr} (h : PathV w (some ⟨pb, po, none⟩) (e :: ds)) (hc : (e :: ds).length ≤ pc) (hnx : (if pc = 1 then some (⟨pb, po, none⟩ : Addr) else some ⟨pb, po + 32, none⟩) = nx) : PathV w nx ds := by
  refine ⟨fun x hx => h.1 x (by simp [hx]), fun hp => ?_⟩
  obtain ⟨b, off, h1, h2⟩ := h.2 (by simp)
  cases h1
  rw [if_neg (by simp at hc; omega)] at hnx
  refine ⟨pb, po + 32, hnx.symm, fun k x hx => ?_⟩
  have := h2 (k + 1) x (by simpa using hx)
  rw [show po + (k + 1) * 32 = po + 32 + k * 32 by omega] at this
  exact this
theorem fill_base (z : Int) (c d : Nat) (hd : d ≤ 9223372036854775807) (ls : List LV) (qb qf qn qc f : Nat) (w0 : World) (hLs : LeavesV w0 (some ⟨qb, qf, none⟩) qn qc ls) (hqn : d - c ≤ qn) (hq1 : qn ≤ 1000) (hK : WW w0 1 ks) (hz0 : 1 < w0.heap.size) (hz : -9223372036854775808 ≤ z ∧ z ≤ 9223372036854775807)
    (k a b : Nat) (ds : List (List UInt8)) (po : Option Addr) (pc : Nat) (w : World) (hab : a < b) (hW : Below w0.heap.size w0 w) (hf : w.heap[f]? = some (.cells (fillC z c d (some ⟨qb, qf, none⟩) qn qc po ds.length pc) 126 (0, 0))) (hP : PathV w0 po ds) (hpc : ds.length ≤ pc) (hl : (outL a b c d).length ≤ ds.length) (h12 : (b ≤ c ∨ d ≤ a) ∨ (c ≤ a ∧ b ≤ d)) :
    Calls Tryd.prog 79 #[.pointer (some ⟨f, 0, none⟩), sv a b] w fun e w' => e = .returned (dv (fillF z ls c d (k + 1) a b ds)) ∧ (∃ po2 pn2 pc2, (pn2 = (ds.drop (outL a b c d).length).length ∧ pn2 ≤ pc2 ∧ PathV w0 po2 (ds.drop (outL a b c d).length)) ∧ w'.heap[f]? = some (.cells (fillC z c d (some ⟨qb, qf, none⟩) qn qc po2 pn2 pc2) 126 (0, 0))) ∧ Chg f w w' := by
  by_cases h1 : b ≤ c ∨ d ≤ a
  · rw [outL_apart h1] at hl ⊢
    cases ds with
    | nil => simp at hl
    | cons e t =>
      obtain ⟨pb, off, hpo, hr⟩ := hP.2 (by simp)
      subst hpo
      rw [fillF, if_pos h1]
      have hx := hr 0 e rfl
      rw [Nat.zero_mul, Nat.add_zero] at hx
      refine (fill_apart a b c d z _ qn qc f pb off _ pc e w h1 hf (by simp) hpc (range_bel hx hW (Nat.le_refl _)) (hP.1 e (by simp)) _ rfl).mono ?_
      rintro e' w' ⟨rfl, h2, h3⟩
      refine ⟨rfl, ⟨_, _, _, ⟨?_, ?_, ?_⟩, h2⟩, h3⟩
      · simp
      · omega
      · exact path_tail hP hpc rfl
  · have h2 : c ≤ a ∧ b ≤ d := h12.resolve_left h1
    rw [outL_within h1 h2] at hl ⊢
    rw [fillF, if_neg h1, if_pos h2]
    refine (fill_within a b c d z qb qf qn qc f po ds.length pc (rootD z (bytesL (partL ls (a - c) (b - c)))) w h1 h2 hab hd hqn hLs.2.1 hf (rootD_length _ _) ?_).mono ?_
    · intro W hWW
      have hWB : Below w0.heap.size w0 W := hW.trans (hWW.mono hW.size)
      exact root_any z hz (b - c - (a - c)) _ _ _ W ((hLs.below hWB (Nat.le_refl _)).part (a - c) (b - c) (by omega) (by omega)) (by omega) (hK.below hWB hz0) (Nat.lt_of_lt_of_le hz0 hWB.size)
    · rintro e w' ⟨rfl, h3, h4⟩
      exact ⟨rfl, ⟨po, _, pc, ⟨rfl, hpc, hP⟩, h3⟩, h4⟩
theorem fill_any (z : Int) (c d : Nat) (hcd : c < d) (hd : d ≤ 9223372036854775807) (ls : List LV) (qb qf qn qc f : Nat) (w0 : World) (hLs : LeavesV w0 (some ⟨qb, qf, none⟩) qn qc ls) (hqn : d - c ≤ qn) (hq1 : qn ≤ 1000) (hK : WW w0 1 ks) (hz0 : 1 < w0.heap.size) (hz : -9223372036854775808 ≤ z ∧ z ≤ 9223372036854775807) (hf0 : w0.heap.size ≤ f) (hf1 : f ≠ 1) :
    ∀ (k a b : Nat) (ds : List (List UInt8)) (po : Option Addr) (pc : Nat) (w : World), b - a ≤ 2 ^ k → a < b → b ≤ 9223372036854775807 → Below w0.heap.size w0 w → w.heap[f]? = some (.cells (fillC z c d (some ⟨qb, qf, none⟩) qn qc po ds.length pc) 126 (0, 0)) → PathV w0 po ds → ds.length ≤ pc → (outL a b c d).length ≤ ds.length →
      Calls Tryd.prog 79 #[.pointer (some ⟨f, 0, none⟩), sv a b] w fun e w' => e = .returned (dv (fillF z ls c d (k + 1) a b ds)) ∧ (∃ po2 pn2 pc2, (pn2 = (ds.drop (outL a b c d).length).length ∧ pn2 ≤ pc2 ∧ PathV w0 po2 (ds.drop (outL a b c d).length)) ∧ w'.heap[f]? = some (.cells (fillC z c d (some ⟨qb, qf, none⟩) qn qc po2 pn2 pc2) 126 (0, 0))) ∧ Chg f w w' := by
  intro k
  induction k with
  | zero =>
    intro a b ds po pc w hk hab hb hW hf hP hpc hl
    refine fill_base z c d hd ls qb qf qn qc f w0 hLs hqn hq1 hK hz0 hz 0 a b ds po pc w hab hW hf hP hpc hl ?_
    by_cases h1 : b ≤ c ∨ d ≤ a
    · exact .inl h1
    · exact .inr (out_one (by simpa using hk) hab hcd h1)
  | succ k ih =>
    intro a b ds po pc w hk hab hb hW hf hP hpc hl
    by_cases h12 : (b ≤ c ∨ d ≤ a) ∨ (c ≤ a ∧ b ≤ d)
    · exact fill_base z c d hd ls qb qf qn qc f w0 hLs hqn hq1 hK hz0 hz (k + 1) a b ds po pc w hab hW hf hP hpc hl h12
    · have h1 : ¬ (b ≤ c ∨ d ≤ a) := fun h => h12 (.inl h)
      have h2 : ¬ (c ≤ a ∧ b ≤ d) := fun h => h12 (.inr h)
      obtain ⟨h3, h4⟩ := outL_two hcd hab hb h1 h2
      obtain ⟨l1, l2⟩ := halfN_le (b - a) k h3 (by omega) hk
      obtain ⟨s1, s2, -, -, -⟩ := halfN_spec (b - a) h3 (by omega)
      rw [fillF, if_neg h1, if_neg h2]
      rw [h4, List.length_append] at hl ⊢
      obtain ⟨m, hm⟩ : ∃ m, a + halfN (b - a) = m := ⟨_, rfl⟩
      rw [hm] at hl ⊢
      have hds : ∀ e ∈ ds.drop (outL a m c d).length, e.length = 32 := fun e he => hP.1 e (List.mem_of_mem_drop he)
      have hl2 : (outL m b c d).length ≤ (ds.drop (outL a m c d).length).length := by rw [List.length_drop]; omega
      have hz1 : w0.heap.size ≤ w.heap.size := hW.size
      refine (fill_two a b c d m z (some ⟨qb, qf, none⟩) qn qc f po ds.length pc (fillF z ls c d (k + 1) a m ds) (fillF z ls c d (k + 1) m b (ds.drop (outL a m c d).length)) (fun po2 pn2 pc2 => pn2 = (ds.drop (outL a m c d).length).length ∧ pn2 ≤ pc2 ∧ PathV w0 po2 (ds.drop (outL a m c d).length)) (fun po2 pn2 pc2 => pn2 = (ds.drop ((outL a m c d).length + (outL m b c d).length)).length ∧ pn2 ≤ pc2 ∧ PathV w0 po2 (ds.drop ((outL a m c d).length + (outL m b c d).length))) w h1 h2 h3 hb hm hf (fillF_len z ls c d k a m ds hP.1 (by omega)) (fillF_len z ls c d k m b _ hds hl2) hf1 (hK.below hW hz0) hz ?_ ?_)
      · intro W hc hfW
        exact ih a m ds po pc W (by omega) (by omega) (by omega) (hW.trans (hc.below hf0 hz1)) hfW hP hpc (by omega)
      · rintro po2 pn2 pc2 W ⟨rfl, hp2, hp3⟩ hc hfW
        have := ih m b (ds.drop (outL a m c d).length) po2 pc2 W (by omega) (by omega) hb (hW.trans (hc.below hf0 hz1)) hfW hp3 hp2 hl2
        rw [List.drop_drop] at this
        exact this
end Go.Proofs.YtecacjddggljgaaDoor.Sm
namespace Go.Proofs.YtecacjddggljgaaDoor.Sm
open Go.RowKit
theorem wsub {n q : Nat} (h : q ≤ n) (hn : n ≤ 9223372036854775807) : wrap64 ((n : Int) - (q : Int)) = ((n - q : Nat) : Int) := by unfold wrap64; omega
theorem wadd {x q n : Nat} (h : x + q ≤ n) (hn : n ≤ 9223372036854775807) : wrap64 ((x : Int) + (q : Int)) = ((x + q : Nat) : Int) := by unfold wrap64; omega
set_option maxHeartbeats 4000000 in
set_option maxRecDepth 100000 in
theorem crange_some (z : Int) (root : List UInt8) (n x : Nat) (qb qf qn qc : Nat) (ls : List LV) (ao : Option Addr) (L pc : Nat) (ds : List (List UInt8)) (w : World) (hroot : root.length = 32) (hq0 : 0 < qn) (hxn : x + qn ≤ n) (hn : n ≤ 9223372036854775807) (hlen : ds.length = L) (hL : L = (outL 0 n x (x + qn)).length) (hLc : L ≤ pc) (hP : PathV w ao ds)
    (hLs : LeavesV w (some ⟨qb, qf, none⟩) qn qc ls) (hq1 : qn ≤ 1000) (hK : WW w 1 ks) (hz0 : 1 < w.heap.size) (hz : -9223372036854775808 ≤ z ∧ z ≤ 9223372036854775807) :
    Calls Tryd.prog 54 #[.agg #[.int .i64 z], dv root, .int .i64 (n : Int), .int .i64 (x : Int), .slice (some ⟨qb, qf, none⟩) qn qc, .slice ao L pc] w fun e w' => e = .returned (.bool (fillF z ls x (x + qn) 64 0 n ds == root)) ∧ Below w.heap.size w w' := by
  have HO : Hid (∀ W, Calls Tryd.prog 74 #[.agg #[.int .i64 0, .int .i64 (n : Int)], .agg #[.int .i64 (x : Int), .int .i64 ((x + qn : Nat) : Int)]] W fun e w' => ∃ v, e = .returned v ∧ SpV w' W.heap.size v (outL 0 n x (x + qn)) ∧ Below W.heap.size W w') := fun W => outside_any x (x + qn) (by omega) (n - 0) 0 n W rfl (by omega) hn
  have HFA : Hid (∀ (f : Nat) (W : World), w.heap.size ≤ f → Below w.heap.size w W → W.heap[f]? = some (.cells (fillC z x (x + qn) (some ⟨qb, qf, none⟩) qn qc ao ds.length pc) 126 (0, 0)) → Calls Tryd.prog 79 #[.pointer (some ⟨f, 0, none⟩), .agg #[.int .i64 0, .int .i64 (n : Int)]] W fun e w' => e = .returned (.agg (cellsOf (fillF z ls x (x + qn) 64 0 n ds)).toArray) ∧ Chg f W w') := fun f W hf hW hr => by
    have hp := pow63
    have h := fill_any z x (x + qn) (by omega) (by omega) ls qb qf qn qc f w hLs (by omega) hq1 hK hz0 hz hf (by omega) 63 0 n ds ao pc W (by omega) (by omega) hn hW hr hP (by omega) (by omega)
    exact h.mono (fun e w' h => ⟨h.1, h.2.2⟩)
  have HFL : Hid ((fillF z ls x (x + qn) 64 0 n ds).length = 32) := fillF_len z ls x (x + qn) 63 0 n ds hP.1 (by omega)
  have HFL0 := HFL.out
  obtain ⟨u, HU⟩ : ∃ u, Hid (fillF z ls x (x + qn) 64 0 n ds = u) := ⟨_, rfl⟩
  rw [HU.out] at HFA HFL ⊢
  have HUL : Hid (u.length = 32) := HFL.out
  obtain ⟨sp, HSP⟩ : ∃ s, Hid (outL 0 n x (x + qn) = s) := ⟨_, rfl⟩
  rw [HSP.out] at HO hL
  have HLS : Hid (sp.length = L) := hL.symm
  rw [hlen] at HFA
  have HRT : Hid (root.length = 32) := hroot
  have y0 : ((qn : Int) == 0) = false := by simp; omega
  have y1 : ¬ (x : Int) < 0 := by omega
  have y1d : decide ((x : Int) < 0) = false := decide_eq_false y1
  have y2 : ¬ (n : Int) < (qn : Int) := by omega
  have y2d : decide ((n : Int) < (qn : Int)) = false := decide_eq_false y2
  have y2n : decide (n < qn) = false := decide_eq_false (by omega)
  have y4' : x ≤ n - qn := by omega
  have y3 : wrap64 ((n : Int) - (qn : Int)) = ((n - qn : Nat) : Int) := wsub (Nat.le_trans (Nat.le_add_left _ _) hxn) hn
  have y3w : IntKind.i64.wrap ((n : Int) - (qn : Int)) = ((n - qn : Nat) : Int) := (IntWalk.i64_left _).trans y3
  have y5 : wrap64 ((x : Int) + (qn : Int)) = ((x + qn : Nat) : Int) := wadd hxn hn
  obtain ⟨t, HT⟩ : ∃ t, Hid (n - qn = t) := ⟨_, rfl⟩
  obtain ⟨y, HY⟩ : ∃ y, Hid (x + qn = y) := ⟨_, rfl⟩
  rw [HT.out] at y3 y3w y4'
  rw [HY.out] at y5 HO HFA
  have y4 : ¬ (t : Int) < (x : Int) := Int.not_lt.2 (Int.ofNat_le.2 y4')
  have y4d : decide ((t : Int) < (x : Int)) = false := decide_eq_false y4
  have y4n : decide (t < x) = false := decide_eq_false (Nat.not_lt.2 y4')
  have HIR : Hid ((Tryd.prog.info? 46).map (·.size) = some (cellsOf root).length) := by show _ = _; rw [size24, cellsOf_length, hroot]
  clear hroot hq0 hxn hn hlen hL hLc hP hLs hq1 hK hz0 hz HFL0
  unfold dv
  obtain ⟨cr, HCR⟩ : ∃ c, Hid ((cellsOf root).toArray = c) := ⟨_, rfl⟩
  rw [HCR.out]
  go_enter Tryd.func54, Tryd.ntmps54
  go_upto_region 4 with fail
  obtain ⟨W0, HW0⟩ : ∃ W, Hid (W = (((w.alloc (Obj.cells #[Value.int IntKind.i64 z] 26)).alloc (Obj.cells cr 46)).alloc (Obj.cells #[Value.int IntKind.i64 0, Value.int IntKind.i64 (n : Int)] 120)).alloc (Obj.cells #[Value.int IntKind.i64 (x : Int), Value.int IntKind.i64 (y : Int)] 120)) := ⟨_, rfl⟩
  have HF := frame4 w (Obj.cells #[Value.int IntKind.i64 z] 26) (Obj.cells cr 46) (Obj.cells #[Value.int IntKind.i64 0, Value.int IntKind.i64 (n : Int)] 120) #[Value.int IntKind.i64 (x : Int), Value.int IntKind.i64 (y : Int)] 120 W0 HW0.out
  rw [← HW0.out]
  have HFH : Hid _ := HF
  clear HF HW0
  have HS : Hid (∀ W, Below W0.heap.size W0 W → W.cell? ⟨w.heap.size, 0, none⟩ = some (.int .i64 z) ∧ W.cell? ⟨w.heap.size + 2, 0, none⟩ = some (.int .i64 0) ∧ W.cell? ⟨w.heap.size + 2, 1, none⟩ = some (.int .i64 (n : Int)) ∧ W.cell? ⟨w.heap.size + 3, 0, none⟩ = some (.int .i64 (x : Int)) ∧ W.cell? ⟨w.heap.size + 3, 1, none⟩ = some (.int .i64 (y : Int))) := fun W hW =>
    ⟨bel_cell2 hW (Nat.le_refl _) (by rw [cell_of_row W0 _ 0 _ _ _ HFH.out.1]; rfl), bel_cell2 hW (Nat.le_refl _) (by rw [cell_of_row W0 _ 0 _ _ _ HFH.out.2.2.1]; rfl), bel_cell2 hW (Nat.le_refl _) (by rw [cell_of_row W0 _ 1 _ _ _ HFH.out.2.2.1]; rfl), bel_cell2 hW (Nat.le_refl _) (by rw [cell_of_row W0 _ 0 _ _ _ HFH.out.2.2.2.1]; rfl), bel_cell2 hW (Nat.le_refl _) (by rw [cell_of_row W0 _ 1 _ _ _ HFH.out.2.2.2.1]; rfl)⟩
  obtain ⟨q0, q1, q2, q3, q4⟩ := HS.out _ (Below.refl _ _)
  clear y0 y1 y1d y2 y2d y2n y3 y3w y4 y4d y4n y5 y4'
  go_wp2_with fail
  refine (HO.out _).mono ?_
  rintro e w1 ⟨v1, rfl, hs1, hb1⟩
  obtain ⟨aoS, cS, rfl, -⟩ := hs1.shape
  rw [HLS.out]
  have HB1 : Hid (Below W0.heap.size W0 w1) := hb1
  clear q0 q1 q2 q3 q4 hs1 hb1
  obtain ⟨q0, q1, q2, q3, q4⟩ := HS.out _ HB1.out
  go_upto_region 7 with fail
  have hn2 : (w1.alloc (Obj.cells #[.int .i64 z, .int .i64 (x : Int), .int .i64 (y : Int), .slice (some ⟨qb, qf, none⟩) qn qc, .slice ao L pc] 126)).heap[w1.heap.size]? = some (.cells (fillC z x y (some ⟨qb, qf, none⟩) qn qc ao L pc) 126 (0, 0)) := heap_alloc_new w1 _
  have hb2 := bel_alloc w1 (Obj.cells #[.int .i64 z, .int .i64 (x : Int), .int .i64 (y : Int), .slice (some ⟨qb, qf, none⟩) qn qc, .slice ao L pc] 126)
  obtain ⟨W2, HW2⟩ : ∃ W, Hid (w1.alloc (Obj.cells #[.int .i64 z, .int .i64 (x : Int), .int .i64 (y : Int), .slice (some ⟨qb, qf, none⟩) qn qc, .slice ao L pc] 126) = W) := ⟨_, rfl⟩
  rw [HW2.out] at hn2 hb2 ⊢
  have HN2 : Hid _ := hn2
  have HB2 : Hid (Below W0.heap.size W0 W2) := HB1.out.trans (hb2.mono HB1.out.size)
  have HBW : Hid (Below w.heap.size w W2) := HFH.out.2.2.2.2.1.trans (HB2.out.mono (by rw [HFH.out.2.2.2.2.2]; omega))
  have HF1 : Hid (w.heap.size ≤ w1.heap.size ∧ w.heap.size + 2 < W0.heap.size ∧ W0.heap.size ≤ w1.heap.size) := by
    have h1 := HB1.out.size
    have h2 := HFH.out.2.2.2.2.2
    show _ ∧ _ ∧ _
    omega
  have HS2 : Hid (∀ W, Chg w1.heap.size W2 W → W.cell? ⟨w.heap.size + 2, 0, none⟩ = some (.int .i64 0) ∧ W.cell? ⟨w.heap.size + 2, 1, none⟩ = some (.int .i64 (n : Int)) ∧ W.rangeAt (w.heap.size + 1) 0 (cellsOf root)) := fun W hW =>
    ⟨chg_cell hW (HS.out _ HB2.out).2.1 (show w.heap.size + 2 ≠ w1.heap.size by have := HF1.out; omega), chg_cell hW (HS.out _ HB2.out).2.2.1 (show w.heap.size + 2 ≠ w1.heap.size by have := HF1.out; omega), chg_range hW (range_bel (range_of (by rw [HCR.out]; exact HFH.out.2.1)) HB2.out (Nat.le_refl _)) (by have := HF1.out; omega)⟩
  have heq := eq_dig u root HUL.out HRT.out
  have heq2 := equalIn_dig u root HUL.out HRT.out
  have hg := guard24
  obtain ⟨v, HV⟩ : ∃ v, Hid ((u == root) = v) := ⟨_, rfl⟩
  rw [HV.out] at heq heq2
  clear hn2 hb2 HW2 q0 q1 q2 q3 q4
  refine wp_region_held_drew (S := fun W => W.cell? ⟨w.heap.size + 2, 0, none⟩ = some (.int .i64 0) ∧ W.cell? ⟨w.heap.size + 2, 1, none⟩ = some (.int .i64 (n : Int)) ∧ W.rangeAt (w.heap.size + 1) 0 (cellsOf root)) (by kernel_rfl) (HS2.out _ (Chg.refl _ _).drew) (fun hS => ?_)
  refine wpAnyH_take (i := 0) (v := ?_) rfl (by kernel_rfl) (by kernel_rfl) (by kernel_rfl) (fun _ _ _ h => h) (Or.inl ⟨by rfl, ?_⟩) (by assumption) ?_
  rotate_left
  · (intro w hSw; (try dsimp only at hSw); go_simp; try with_reducible rfl)
  simp only [Act.put, List.getElem_toArray, List.getElem_cons_zero, List.setIfInBounds_toArray, List.set_cons_zero, List.set_cons_succ]
  refine wpAnyH_take (i := 2) (v := .agg (cellsOf root).toArray) rfl (by kernel_rfl) (by kernel_rfl) (by kernel_rfl) (fun _ _ _ h => h) (yieldsIf_load_mid (by rfl) 46 (.tmp 7) rfl (w.heap.size + 1) 0 rfl (cellsOf root) _ (fun _ h => h.2.2) Tryd.underlying46 rfl HIR.out) (by assumption) ?_
  simp only [Act.put, List.getElem_toArray, List.getElem_cons_zero, List.getElem_cons_succ, List.setIfInBounds_toArray, List.set_cons_zero, List.set_cons_succ]
  refine wpAnyH_ready (rs := [1]) (by kernel_rfl) (by simp) ?_
  refine AllReadyH.cons rfl (fun K hK => ?_) AllReadyH.nil
  go_simp
  refine (HFA.out _ _ HF1.out.1 (Below.drew HBW.out) HN2.out).mono ?_
  rintro e w3 ⟨rfl, hc3⟩
  have HC3 : Hid (Chg w1.heap.size W2 w3) := (Chg.refl _ _).drew.trans hc3
  go_wp2_with fail
  refine hK.out _ _ (HS2.out _ HC3.out) (fun hHeld2 => ?_)
  clear hK K hc3
  refine wpAnyH_take (i := 3) (v := ?_) rfl (by kernel_rfl) (by kernel_rfl) (by kernel_rfl) (fun _ _ _ h => h) (Or.inl ⟨by rfl, ?_⟩) (by assumption) ?_
  rotate_left
  · (intro w hSw; (try dsimp only at hSw); go_simp; try with_reducible rfl)
  simp only [Act.put, List.getElem_toArray, List.getElem_cons_zero, List.getElem_cons_succ, List.setIfInBounds_toArray, List.set_cons_zero, List.set_cons_succ]
  refine wpAnyH_take (i := 4) (v := ?_) rfl (by kernel_rfl) (by kernel_rfl) (by kernel_rfl) (fun _ _ _ h => h) (Or.inl ⟨by rfl, ?_⟩) (by assumption) ?_
  rotate_left
  · (intro w hSw; (try dsimp only at hSw); go_simp; try with_reducible rfl)
  simp only [Act.put, List.getElem_toArray, List.getElem_cons_zero, List.getElem_cons_succ, List.setIfInBounds_toArray, List.set_cons_zero, List.set_cons_succ]
  refine wpAnyH_done (by kernel_rfl) ?_ _
  clear hS hHeld2
  go_wp2_with fail
  go_ret
  refine ⟨by rw [HV.out]; rfl, HBW.out.trans ?_⟩
  exact HC3.out.below HF1.out.1 HBW.out.size
end Go.Proofs.YtecacjddggljgaaDoor.Sm
namespace Go.Proofs.YtecacjddggljgaaDoor.Sm
open Go.RowKit
theorem mask_full (c : UInt8) (l : Nat) (h : 8 ≤ l) : maskB c l = c := by
  unfold maskB
  rw [Nat.min_eq_right h, show UInt8.ofNat (255 - 255 / 2 ^ 8) = -1 from rfl]
  exact UInt8.and_neg_one
theorem keptB_full (d : List UInt8) (L : Nat) : ∀ i, 8 * i ≤ L → keptB d L i = d
  | 0, _ => rfl
  | i + 1, h => by
    rw [keptB, keptB_full d L i (by omega), mask_full _ _ (by omega)]
    apply List.ext_getElem?
    intro j
    rw [List.getElem?_set]
    split
    · rename_i hij
      subst hij
      split
      · rename_i hl
        rw [List.getD_eq_getElem?_getD, List.getElem?_eq_getElem hl]; rfl
      · rename_i hl
        rw [List.getElem?_eq_none (by omega)]
    · rfl
theorem keptZ_all (bs : List UInt8) : keptZ 256 bs = shaB bs := keptB_full _ _ 32 (by decide)
theorem half3 : halfN 3 = 2 := by decide
theorem half2 : halfN 2 = 1 := by decide
theorem rootD_one (z : Int) (a : List UInt8) : rootD z [a] = leafD z a := rfl
theorem root2 (z : Int) (a b : List UInt8) : rootD z [a, b] = nodeD z (leafD z a) (leafD z b) := by
  rw [rootD_two z [a, b] (by simp) (by simp)]
  simp [half2, rootD_one]
theorem root3 (z : Int) (a b c : List UInt8) : rootD z [a, b, c] = nodeD z (nodeD z (leafD z a) (leafD z b)) (leafD z c) := by
  rw [rootD_two z [a, b, c] (by simp) (by simp)]
  simp [half3, root2, rootD_one]
theorem up32 : upL 3 2 = [⟨0, 2, true⟩] := by kernel_rfl
theorem out312 : outL 0 3 1 2 = [(0, 1), (2, 3)] := by decide
theorem path3 (z : Int) (la lb lc : LV) : besideD z [la, lb, lc] (spanS (upL 3 2)) = [nodeD z (leafD z la.bs) (leafD z lb.bs)] := by
  rw [up32]
  show [rootD z [la.bs, lb.bs]] = _
  rw [root2]
theorem range3 (z : Int) (la lb lc : LV) : besideD z [la, lb, lc] (outL 0 3 1 2) = [leafD z la.bs, leafD z lc.bs] := by
  rw [out312]; rfl
theorem climb3 (z : Int) (u d : List UInt8) : climbD z u (upL 3 2) [d] = nodeD z d u := by rw [up32]; simp only [climbD, List.zip_cons_cons, List.zip_nil_left, List.foldl_cons, List.foldl_nil, joinS, if_true]
theorem fill3f (z : Int) (lb : LV) (d1 d2 : List UInt8) (f : Nat) : fillF z [lb] 1 2 (f + 1 + 1 + 1) 0 3 [d1, d2] = nodeD z (nodeD z d1 (leafD z lb.bs)) d2 := by
  have e1 : ∀ g ds, fillF z [lb] 1 2 (g + 1) 0 1 ds = ds.headD [] := fun g ds => by rw [fillF, if_pos (by omega)]
  have e2 : ∀ g ds, fillF z [lb] 1 2 (g + 1) 2 3 ds = ds.headD [] := fun g ds => by rw [fillF, if_pos (by omega)]
  have e3 : ∀ g ds, fillF z [lb] 1 2 (g + 1) 1 2 ds = leafD z lb.bs := fun g ds => by
    rw [fillF, if_neg (by omega), if_pos (by omega)]
    show rootD z [lb.bs] = _
    exact rootD_one z lb.bs
  rw [fillF, if_neg (by omega), if_neg (by omega), show 0 + halfN (3 - 0) = 2 from by decide, show (outL 0 2 1 2).length = 1 from by decide, e2]
  rw [fillF, if_neg (by omega), if_neg (by omega), show 0 + halfN (2 - 0) = 1 from by decide, e1, e3]
  simp only [List.headD_cons, List.drop_succ_cons, List.drop_zero]
theorem fill3 (z : Int) (lb : LV) (d1 d2 : List UInt8) : fillF z [lb] 1 2 64 0 3 [d1, d2] = nodeD z (nodeD z d1 (leafD z lb.bs)) d2 := fill3f z lb d1 d2 61
end Go.Proofs.YtecacjddggljgaaDoor.Sm
