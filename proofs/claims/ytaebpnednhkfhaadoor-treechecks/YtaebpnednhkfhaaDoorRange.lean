/-
  What tree.Range of a tree answers: a contract over this translation.
-/
import Derived.Test.YtaebpnednhkfhaaDoorPartG
import Derived.Test.YtaebpnednhkfhaaDoorNames
import Derived.Great.BuildSlice
namespace Go.Proofs.YtaebpnednhkfhaaDoor
open Go.RowKit
/-- Digests as cells. -/
def digC (ds : List (List UInt8)) : List Value := ds.flatMap cellsOf
theorem digC_app (a b : List (List UInt8)) : digC (a ++ b) = digC a ++ digC b := by simp [digC]
theorem info24 : (Tryd.prog.info? 24).map (fun i => (i.zero, i.size, i.bytes)) = some (some (.agg (List.replicate 32 (Value.int .u8 0)).toArray), 32, 32) := by kernel_rfl
/-- A row of digests of the call's own. -/
def DgV (w : World) (base : Nat) (v : Value) (ds : List (List UInt8)) : Prop := w.ownsRow base 24 32 v ds.length (digC ds) ∧ (ds = [] → v = .slice none 0 0) ∧ ∀ d ∈ ds, d.length = 32
theorem DgV.below {w w' : World} {base B : Nat} {v : Value} {l : List (List UInt8)} (h : DgV w base v l) (hb : Below B w w') (hB : w.heap.size ≤ B) : DgV w' base v l := ⟨own_below h.1 hb hB, h.2⟩
theorem DgV.mono {w : World} {base b' : Nat} {v : Value} {l : List (List UInt8)} (h : DgV w base v l) (hb : b' ≤ base) : DgV w b' v l := ⟨ownsRow_mono h.1 hb, h.2⟩
theorem dgv_nil (w : World) (base : Nat) : DgV w base (.slice none 0 0) [] := ⟨World.ownsRow_nil _ _ _ _, fun _ => rfl, fun d hd => by cases hd⟩
/-- The leaves from a to b - 1. -/
def partL (ls : List LV) (a b : Nat) : List LV := (ls.drop a).take (b - a)
/-- What stands beside the leaves. -/
def besideD (z : Int) (ls : List LV) (sp : List (Nat × Nat)) : List (List UInt8) := sp.map fun p => rootD z (bytesL (partL ls p.1 p.2))
theorem LeavesV.part {w : World} {b off n c : Nat} {ls : List LV} (h : LeavesV w (some ⟨b, off, none⟩) n c ls) (x y : Nat) (hxy : x < y) (hy : y ≤ n) : LeavesV w (some ⟨b, off + x, none⟩) (y - x) (c - x) (partL ls x y) := by
  have h1 := h.drop x (by omega)
  have h2 := h1.take (y - x) (by omega)
  exact h2
/-- Every part lies among the leaves. -/
theorem outF_in (c d : Nat) (hcd : c < d) : ∀ (f a b : Nat), a < b → b ≤ 9223372036854775807 → ∀ p ∈ outF f a b c d, a ≤ p.1 ∧ p.1 < p.2 ∧ p.2 ≤ b := by
  intro f
  induction f with
  | zero => intro a b _ _ p hp; cases hp
  | succ f ih =>
    intro a b hab hb p hp
    rw [outF] at hp
    split at hp
    · simp only [List.mem_singleton] at hp
      subst hp
      exact ⟨Nat.le_refl _, hab, Nat.le_refl _⟩
    · rename_i h1
      split at hp
      · cases hp
      · rename_i h2
        have h3 : 2 ≤ b - a := by
          rcases Nat.lt_or_ge (b - a) 2 with h | h
          · exact absurd (out_one (by omega) hab hcd h1) h2
          · exact h
        obtain ⟨s1, s2, -, -, -⟩ := halfN_spec (b - a) h3 (by omega)
        rcases List.mem_append.1 hp with h | h
        · have := ih a (a + halfN (b - a)) (by omega) (by omega) p h; omega
        · have := ih (a + halfN (b - a)) b (by omega) hb p h; omega
theorem outL_in {a b c d : Nat} (hcd : c < d) (hab : a < b) (hb : b ≤ 9223372036854775807) : ∀ p ∈ outL a b c d, a ≤ p.1 ∧ p.1 < p.2 ∧ p.2 ≤ b := outF_in c d hcd 64 a b hab hb
theorem spanC_at : ∀ (l : List (Nat × Nat)) (i : Nat) (p : Nat × Nat), l[i]? = some p → (spanC l)[i * 2]? = some (.int .i64 (p.1 : Int)) ∧ (spanC l)[i * 2 + 1]? = some (.int .i64 (p.2 : Int))
  | [], i, p, h => by simp at h
  | q :: l, 0, p, h => by
    simp at h
    subst h
    exact ⟨rfl, rfl⟩
  | q :: l, i + 1, p, h => by
    have := spanC_at l i p (by simpa using h)
    have e : spanC (q :: l) = .int .i64 (q.1 : Int) :: .int .i64 (q.2 : Int) :: spanC l := by simp [spanC]
    rw [e, show (i + 1) * 2 = i * 2 + 1 + 1 by omega]
    exact this
theorem SpV.shape {w : World} {base : Nat} {v : Value} {l : List (Nat × Nat)} (h : SpV w base v l) : ∃ ao c, v = .slice ao l.length c ∧ (0 < l.length → ∃ g, ao = some ⟨g, 0, none⟩ ∧ ∀ i p, l[i]? = some p → w.cell? ⟨g, i * 2, none⟩ = some (.int .i64 (p.1 : Int)) ∧ w.cell? ⟨g, i * 2 + 1, none⟩ = some (.int .i64 (p.2 : Int))) := by
  rcases h.1.2 with ⟨h1, h2⟩ | ⟨g, cap, cur, h1, _⟩
  · exact ⟨none, 0, by rw [h1, h2], fun hp => by omega⟩
  · refine ⟨_, cap, h1, fun _ => ⟨g, rfl, fun i p hp => ?_⟩⟩
    have hc := h.1
    rw [h1] at hc
    have hcell := hc.cells (g := g) rfl
    obtain ⟨a1, a2⟩ := spanC_at l i p hp
    have b1 := hcell _ _ a1
    have b2 := hcell _ _ a2
    simp only [Addr.add_lit, Nat.zero_add] at b1 b2
    exact ⟨b1, b2⟩
/-- A slice literal of one digest, at a step of a region that draws its order. -/
theorem step_build_dig {ops : Array Oper} {o : Oper} {a : Act} {K : Act → World → Prop} {Q : Exit → Act → World → Prop} {E : Prop} (w : World)
    (hg : o.guard = none) (x : Operand) (hop : o.op = Op.buildSlice 40 1 #[(0, x)]) (d : List UInt8) (hx : a.eval x = dv d) (hd : d.length = 32)
    (hK : K (a.put o.dst (.slice (some ⟨w.heap.size, 0, none⟩) 1 1)) (w.alloc (.cells (cellsOf d).toArray 24))) :
    if Region.wanted o (yielded ops a.tmps) = true then Oper.wp Tryd.prog o a w K Q else E := by
  have hw : Region.wanted o (yielded ops a.tmps) = true := by simp [Region.wanted, hg]
  rw [if_pos hw]
  obtain ⟨i0, hi, hz0, hz1, hz2⟩ := info_parts info24
  refine wp_buildSlice 40 24 1 _ hop (cellsOf d).toArray i0 _ Tryd.underlying40 hi hz0 (by rw [hz1]; omega) (by rw [hz1]; omega) ?_ hK
  rw [hz1]
  have h := Great.fill_whole (s := 32) (by omega) [dv d] ((Array.range (1 * 32)).map ((Value.agg (List.replicate 32 (Value.int .u8 0)).toArray).cells[· % (Value.agg (List.replicate 32 (Value.int .u8 0)).toArray).cells.size]!)) (fun v hv => by
    rw [List.mem_singleton] at hv
    subst hv
    exact dig_size hd) (by simp)
  have e1 : (#[(0, x)].map fun (y : Nat × Operand) => (y.1, a.eval y.2)).toList = ([dv d].zipIdx 0).map fun x => (x.2, x.1) := by simp [hx]
  have e2 : [dv d].flatMap (fun v => v.cells.toList) = cellsOf d := by simp [dv, Value.cells]
  rw [e2] at h
  exact (congrArg _ e1).trans h
/-- The row of such a literal. -/
theorem dig_cells (w : World) (d : List UInt8) : ∀ j u, (cellsOf d)[j]? = some u → (w.alloc (.cells (cellsOf d).toArray 24)).cell? ((⟨w.heap.size, 0, none⟩ : Addr).add j) = some u := by
  intro j u hu
  rw [Addr.add_lit, cell_of_row _ _ _ _ _ _ (heap_alloc_new w _)]
  simpa using hu
/-- 'append(own, own2...)' at a step of a region that draws its order: no block but its own turns. -/
theorem step_append_twok {ops : Array Oper} {o : Oper} {a : Act} {K : Act → World → Prop} {Q : Exit → Act → World → Prop} {E : Prop} (w : World)
    (hg : o.guard = none) (s x : Operand) (t e : TypeId) (hop : o.op = Op.call { callee := Callee.builtin Builtin.append, args := #[s, x], argTypes := #[t, t] })
    (i : TypeInfo) (z : Value) (size bytes : Nat) (ht : Tryd.prog.underlying t = some (.slice e)) (hi : Tryd.prog.info? e = some i) (hz0 : i.zero = some z) (hz1 : i.size = size) (hz2 : i.bytes = bytes) (hzs : z.cells.size = size) (hsz : 0 < size)
    (base : Nat) (v : Value) (n : Nat) (xs : List Value) (hs : a.eval s = v) (hown : w.ownsRow base e size v n xs) (hbase : base ≤ w.heap.size)
    (g m cap : Nat) (ys : List Value) (hx : a.eval x = .slice (some ⟨g, 0, none⟩) m cap) (hl : ys.length = m * size) (hc : ∀ j u, ys[j]? = some u → w.cell? ((⟨g, 0, none⟩ : Addr).add j) = some u) (h1 : ∀ u ∈ ys, u.oneCell' = true)
    (hb : n + m ≤ 1000000) (hb2 : bytes ≤ 1000)
    (hK : ∀ v' w', w'.ownsRow base e size v' (n + m) (xs ++ ys) → Below base w w' → (∀ k, k < w.heap.size → some k ≠ v.ownBlock → w'.heap[k]? = w.heap[k]?) → (v' = .slice none 0 0 ↔ v = .slice none 0 0 ∧ m = 0) → K (a.put o.dst v') w') :
    if Region.wanted o (yielded ops a.tmps) = true then Oper.wp Tryd.prog o a w K Q else E := by
  have hw : Region.wanted o (yielded ops a.tmps) = true := by simp [Region.wanted, hg]
  rw [if_pos hw]
  have hmul : (n + m) * bytes ≤ 1000000 * 1000 := Nat.mul_le_mul hb hb2
  refine wp_append_own w s x t hop base e i z size bytes ht hi hz0 hz1 hz2 hzs hsz v n xs hs hown ⟨g, 0, none⟩ m cap ys hx hl hc h1 (by unfold maxLen; omega) (by omega) hbase ?_
  intro v' w' a1 a2 a3
  exact hK v' w' a1 ((Below.refl _ _).grown a2 hbase (fun k hk => (hown.lt k hk).1)) a2.block a3
set_option maxHeartbeats 2000000 in
set_option maxRecDepth 100000 in
theorem range_wrong (z : Int) (ao : Option Addr) (n c : Nat) (x y : Int) (w : World) (hno : ¬ (0 ≤ x ∧ x < y ∧ y ≤ n)) :
    Calls Tryd.prog 35 #[.agg #[.int .i64 z], .slice ao n c, .int .i64 x, .int .i64 y] w fun e w' => e = .returned (.tuple #[.slice none 0 0, .int .i64 1]) ∧ Below w.heap.size w w' := by
  by_cases h1 : x < 0
  · clear hno
    go_enter Tryd.func35, Tryd.ntmps35
    go_wp2
    go_ret2
    exact ⟨rfl, bel_alloc _ _⟩
  · have h1d : decide (x < 0) = false := by simp; omega
    by_cases h2 : y ≤ x
    · clear hno
      go_enter Tryd.func35, Tryd.ntmps35
      go_wp2
      go_ret2
      exact ⟨rfl, bel_alloc _ _⟩
    · have h2d : decide (y ≤ x) = false := by simp; omega
      have h3 : (n : Int) < y := by omega
      clear hno
      go_enter Tryd.func35, Tryd.ntmps35
      go_wp2
      go_ret2
      exact ⟨rfl, bel_alloc _ _⟩
set_option maxHeartbeats 4000000 in
set_option maxRecDepth 100000 in
theorem range_some (z : Int) (b off n c : Nat) (ls : List LV) (x y : Nat) (w : World) (hL : LeavesV w (some ⟨b, off, none⟩) n c ls) (hn : n ≤ 1000) (hxy : x < y) (hy : y ≤ n) (hK : WW w 0 ks) (hz0 : 0 < w.heap.size) (hz : -9223372036854775808 ≤ z ∧ z ≤ 9223372036854775807) :
    Calls Tryd.prog 35 #[.agg #[.int .i64 z], .slice (some ⟨b, off, none⟩) n c, .int .i64 (x : Int), .int .i64 (y : Int)] w fun e w' => ∃ v, e = .returned (.tuple #[v, .int .i64 0]) ∧ DgV w' w.heap.size v (besideD z ls (outL 0 n x y)) ∧ Below w.heap.size w w' := by
  have HOI : Hid (∀ p ∈ outL 0 n x y, 0 ≤ p.1 ∧ p.1 < p.2 ∧ p.2 ≤ n) := outL_in hxy (by omega) (by omega)
  have HOL : Hid ((outL 0 n x y).length ≤ 127) := outL_len hxy (by omega) (by omega)
  have HO : Hid (∀ W, Calls Tryd.prog 66 #[.agg #[.int .i64 0, .int .i64 (n : Int)], .agg #[.int .i64 (x : Int), .int .i64 (y : Int)]] W fun e w' => ∃ v, e = .returned v ∧ SpV w' W.heap.size v (outL 0 n x y) ∧ Below W.heap.size W w') := fun W => outside_any x y hxy (n - 0) 0 n W rfl (by omega) (by omega)
  have HOF : Hid (∀ p : Nat × Nat, 0 ≤ p.1 ∧ p.1 < p.2 ∧ p.2 ≤ n → ∀ W, Calls Tryd.prog 59 #[.agg #[.int .i64 (p.1 : Int), .int .i64 (p.2 : Int)], .slice (some ⟨b, off, none⟩) n c] W fun e w' => e = .returned (.slice (some ⟨b, off + p.1, none⟩) (p.2 - p.1) (c - p.1)) ∧ Below W.heap.size W w') := fun p hp W => of_span p.1 p.2 b off n c W hp.2.1 hp.2.2 hL.2.1
  have HRT : Hid (∀ p : Nat × Nat, 0 ≤ p.1 ∧ p.1 < p.2 ∧ p.2 ≤ n → ∀ W, Below w.heap.size w W → Calls Tryd.prog 23 #[.agg #[.int .i64 z], .slice (some ⟨b, off + p.1, none⟩) (p.2 - p.1) (c - p.1)] W fun e w' => e = .returned (dv (rootD z (bytesL (partL ls p.1 p.2)))) ∧ Below W.heap.size W w') := fun p hp W hW => root_any z hz (p.2 - p.1) _ _ _ W ((hL.below hW (Nat.le_refl _)).part p.1 p.2 hp.2.1 hp.2.2) (by omega) (hK.below hW hz0) (Nat.lt_of_lt_of_le hz0 hW.size)
  have y1 : ¬ (x : Int) < 0 := by omega
  have y1d : decide ((x : Int) < 0) = false := decide_eq_false y1
  have y2 : ¬ (y : Int) ≤ (x : Int) := by omega
  have y2d : decide ((y : Int) ≤ (x : Int)) = false := decide_eq_false y2
  have y2n : decide (y ≤ x) = false := decide_eq_false (by omega)
  have y3 : ¬ (n : Int) < (y : Int) := by omega
  have y3d : decide ((n : Int) < (y : Int)) = false := decide_eq_false y3
  have y3n : decide (n < y) = false := decide_eq_false (by omega)
  obtain ⟨sp, HSP⟩ : ∃ s, Hid (outL 0 n x y = s) := ⟨_, rfl⟩
  rw [HSP.out] at HOI HOL HO ⊢
  clear hL hn hxy hy hK hz0 hz
  obtain ⟨i0, hi, hz0, hz1, hz2⟩ := info_parts info24
  go_enter Tryd.func35, Tryd.ntmps35
  go_wp2_with fail
  refine (HO.out _).mono ?_
  rintro e w1 ⟨v1, rfl, hs1, hb1⟩
  have HB1 : Hid (Below w.heap.size w w1) := (bel_alloc w _).trans (hb1.mono (by simp))
  have HC0 : Hid (w1.cell? ⟨w.heap.size, 0, none⟩ = some (.int .i64 z)) := by
    refine bel_cell2 hb1 (Nat.le_refl _) ?_
    rw [cell_of_row _ _ 0 _ _ _ (heap_alloc_new w _)]; rfl
  have HS1 : Hid (SpV w1 (w.heap.size + 1) v1 sp) := by show SpV _ _ _ _; simpa using hs1
  obtain ⟨aoS, cS, rfl, hcS⟩ := HS1.out.shape
  have HCS : Hid _ := hcS
  obtain ⟨L, HL⟩ : ∃ L, Hid (sp.length = L) := ⟨_, rfl⟩
  rw [HL.out] at HOL HCS ⊢
  clear hb1 hs1 hcS y1 y1d y2 y2d y2n y3 y3d y3n HO
  have hL1 := HOL.out
  go_wp2_with fail
  go_loopw [10, 12, 34] (fun s10 _ s34 wr => ∃ k : Nat, s34 = .int .i64 k ∧ k ≤ L ∧ Hid (DgV wr w1.heap.size s10 (besideD z ls (sp.take k))) ∧ Hid (Below w1.heap.size w1 wr)) (fun _ _ x _ => L - (intOf x).toNat)
  case atStart => exact ⟨0, rfl, Nat.zero_le _, dgv_nil _ _, Below.refl _ _⟩
  case round =>
    obtain ⟨k, rfl, hk, HD, HBE⟩ := hrel
    by_cases hlt : k < L
    case neg =>
      have hkz : ¬ (k : Int) < (L : Int) := by omega
      have HE : Hid (sp.take k = sp) := List.take_of_length_le (by have := HL.out; omega)
      rw [HE.out] at HD
      clear hk hlt hL1
      go_wp2_with fail
      go_ret2
      exact ⟨_, rfl, HD.out.mono HB1.out.size, HB1.out.trans (HBE.out.mono HB1.out.size)⟩
    case pos =>
      have hkz : (k : Int) < (L : Int) := by omega
      obtain ⟨g, rfl, hcc⟩ := HCS.out (by omega)
      obtain ⟨⟨p1, p2⟩, HP⟩ : ∃ p, Hid (sp[k]? = some p) := ⟨_, List.getElem?_eq_getElem (by have := HL.out; omega)⟩
      obtain ⟨c0, c1⟩ := hcc k _ HP.out
      have c0 := bel_cell2 HBE.out (Nat.le_refl _) c0
      have c1 := bel_cell2 HBE.out (Nat.le_refl _) c1
      have HPI : Hid (0 ≤ p1 ∧ p1 < p2 ∧ p2 ≤ n) := HOI.out _ (List.mem_of_getElem? HP.out)
      clear hcc hlt hL1
      go_upto_region 7 with fail
      obtain ⟨W4, HW4⟩ : ∃ W, Hid (W = wr.alloc (.cells #[.int .i64 (p1 : Int), .int .i64 (p2 : Int)] 78)) := ⟨_, rfl⟩
      rw [← HW4.out]
      have HB4 : Hid (Below wr.heap.size wr W4) := by show Below _ _ _; rw [HW4.out]; exact bel_alloc _ _
      have HN4 : Hid (W4.heap[wr.heap.size]? = some (.cells #[.int .i64 (p1 : Int), .int .i64 (p2 : Int)] 78 (0, 0))) := by show _ = _; rw [HW4.out]; exact heap_alloc_new wr _
      have HZ4 : Hid (W4.heap.size = wr.heap.size + 1) := by show _ = _; rw [HW4.out]; simp
      have HS : Hid (∀ W : World, (∀ q, q < W4.heap.size → q < w1.heap.size ∨ q = wr.heap.size → W.heap[q]? = W4.heap[q]?) → W.cell? ⟨w.heap.size, 0, none⟩ = some (.int .i64 z) ∧ W.cell? ⟨wr.heap.size, 0, none⟩ = some (.int .i64 (p1 : Int)) ∧ W.cell? ⟨wr.heap.size, 1, none⟩ = some (.int .i64 (p2 : Int))) := fun W hW => by
        have q1 := World.cell?_of_block (w := W4) (w' := W) (a := ⟨w.heap.size, 0, none⟩) (hW w.heap.size (by rw [HZ4.out]; have := HBE.out.size; have := World.block_lt_of_cell? _ _ HC0.out; simp at this; omega) (Or.inl (World.block_lt_of_cell? _ _ HC0.out)))
        have q2 : W.heap[wr.heap.size]? = W4.heap[wr.heap.size]? := hW _ (by rw [HZ4.out]; omega) (Or.inr rfl)
        rw [HN4.out] at q2
        refine ⟨?_, ?_, ?_⟩
        · rw [q1]; exact bel_cell2 (HBE.out.trans (HB4.out.mono HBE.out.size)) (Nat.le_refl _) HC0.out
        · rw [cell_of_row _ _ 0 _ _ _ q2]; rfl
        · rw [cell_of_row _ _ 1 _ _ _ q2]; rfl
      have HSB : Hid (∀ W, Below W4.heap.size W4 W → W.cell? ⟨w.heap.size, 0, none⟩ = some (.int .i64 z) ∧ W.cell? ⟨wr.heap.size, 0, none⟩ = some (.int .i64 (p1 : Int)) ∧ W.cell? ⟨wr.heap.size, 1, none⟩ = some (.int .i64 (p2 : Int))) := fun W hW => HS.out W (fun q hq _ => hW.block q hq)
      have HBW : Hid (Below w.heap.size w W4) := HB1.out.trans ((HBE.out.trans (HB4.out.mono HBE.out.size)).mono HB1.out.size)
      obtain ⟨d, HDD⟩ : ∃ d, Hid (rootD z (bytesL (partL ls p1 p2)) = d) := ⟨_, rfl⟩
      have HOFp : Hid (∀ W, Calls Tryd.prog 59 #[.agg #[.int .i64 (p1 : Int), .int .i64 (p2 : Int)], .slice (some ⟨b, off, none⟩) n c] W fun e w' => e = .returned (.slice (some ⟨b, off + p1, none⟩) (p2 - p1) (c - p1)) ∧ Below W.heap.size W w') := HOF.out (p1, p2) HPI.out
      have HRTp : Hid (∀ W, Below w.heap.size w W → Calls Tryd.prog 23 #[.agg #[.int .i64 z], .slice (some ⟨b, off + p1, none⟩) (p2 - p1) (c - p1)] W fun e w' => e = .returned (dv d) ∧ Below W.heap.size W w') := by
        have h := HRT.out (p1, p2) HPI.out
        simp only [HDD.out] at h
        exact h
      have HDL : Hid (d.length = 32) := by show _ = _; rw [← HDD.out]; exact rootD_length _ _
      clear c0 c1 HCS HOF HRT HOI
      refine wp_region_held_drew (S := fun W => W.cell? ⟨w.heap.size, 0, none⟩ = some (.int .i64 z) ∧ W.cell? ⟨wr.heap.size, 0, none⟩ = some (.int .i64 (p1 : Int)) ∧ W.cell? ⟨wr.heap.size, 1, none⟩ = some (.int .i64 (p2 : Int))) (by kernel_rfl) (HSB.out _ (Below.drew (Below.refl _ _))) (fun hS => ?_)
      refine wpAnyH_take (i := 0) (v := ?_) rfl (by kernel_rfl) (by kernel_rfl) (by kernel_rfl) (fun _ _ _ h => h) (Or.inl ⟨by rfl, ?_⟩) (by assumption) ?_
      rotate_left
      · (intro w hSw; (try dsimp only at hSw); go_simp; try with_reducible rfl)
      simp only [Act.put, List.getElem_toArray, List.getElem_cons_zero, List.setIfInBounds_toArray, List.set_cons_zero, List.set_cons_succ]
      refine wpAnyH_take (i := 1) (v := ?_) rfl (by kernel_rfl) (by kernel_rfl) (by kernel_rfl) (fun _ _ _ h => h) (Or.inl ⟨by rfl, ?_⟩) (by assumption) ?_
      rotate_left
      · (intro w hSw; (try dsimp only at hSw); go_simp; try with_reducible rfl)
      simp only [Act.put, List.getElem_toArray, List.getElem_cons_zero, List.getElem_cons_succ, List.setIfInBounds_toArray, List.set_cons_zero, List.set_cons_succ]
      refine wpAnyH_take (i := 2) (v := ?_) rfl (by kernel_rfl) (by kernel_rfl) (by kernel_rfl) (fun _ _ _ h => h) (Or.inl ⟨by rfl, ?_⟩) (by assumption) ?_
      rotate_left
      · (intro w hSw; (try dsimp only at hSw); go_simp; try with_reducible rfl)
      simp only [Act.put, List.getElem_toArray, List.getElem_cons_zero, List.getElem_cons_succ, List.setIfInBounds_toArray, List.set_cons_zero, List.set_cons_succ]
      refine wpAnyH_take (i := 3) (v := ?_) rfl (by kernel_rfl) (by kernel_rfl) (by kernel_rfl) (fun _ _ _ h => h) (Or.inl ⟨by rfl, ?_⟩) (by assumption) ?_
      rotate_left
      · (intro w hSw; (try dsimp only at hSw); go_simp; try with_reducible rfl)
      simp only [Act.put, List.getElem_toArray, List.getElem_cons_zero, List.getElem_cons_succ, List.setIfInBounds_toArray, List.set_cons_zero, List.set_cons_succ]
      refine wpAnyH_ready (rs := [4]) (by kernel_rfl) (by simp) ?_
      refine AllReadyH.cons rfl (fun K hK => ?_) AllReadyH.nil
      go_simp
      refine (HOFp.out _).mono ?_
      rintro e w5 ⟨rfl, hb5⟩
      have HB5 : Hid (Below W4.heap.size W4 w5) := (Below.drew (Below.refl _ _)).trans hb5
      go_wp2_with fail
      refine hK.out _ _ (HSB.out _ HB5.out) (fun hHeld2 => ?_)
      clear hK K hb5
      refine wpAnyH_ready (rs := [5]) (by kernel_rfl) (by simp) ?_
      refine AllReadyH.cons rfl (fun K hK => ?_) AllReadyH.nil
      go_simp
      refine (HRTp.out _ (HBW.out.trans (HB5.out.mono HBW.out.size))).mono ?_
      rintro e w6 ⟨rfl, hb6⟩
      have HB6 : Hid (Below W4.heap.size W4 w6) := HB5.out.trans (hb6.mono HB5.out.size)
      go_wp2_with fail
      refine hK.out _ _ (HSB.out _ HB6.out) (fun hHeld2 => ?_)
      clear hK K hb6
      refine wpAnyH_ready (rs := [6]) (by kernel_rfl) (by simp) ?_
      refine AllReadyH.cons rfl (fun K hK => ?_) AllReadyH.nil
      refine step_build_dig _ rfl (.tmp 43) rfl d rfl HDL.out ?_
      obtain ⟨w7, HW7⟩ : ∃ W, Hid (W = w6.alloc (.cells (cellsOf d).toArray 24)) := ⟨_, rfl⟩
      have HC7 : Hid (∀ j u, (cellsOf d)[j]? = some u → w7.cell? ((⟨w6.heap.size, 0, none⟩ : Addr).add j) = some u) := by have h := dig_cells w6 d; rw [← HW7.out] at h; exact h
      have HB67 : Hid (Below w6.heap.size w6 w7) := by show Below _ _ _; rw [HW7.out]; exact bel_alloc _ _
      rw [← HW7.out]
      have HB7 : Hid (Below W4.heap.size W4 w7) := HB6.out.trans (HB67.out.mono HB6.out.size)
      refine hK.out _ _ (HSB.out _ HB7.out) (fun hHeld2 => ?_)
      clear hK K
      simp only [Act.put, List.getElem_toArray, List.getElem_cons_zero, List.getElem_cons_succ, List.setIfInBounds_toArray, List.set_cons_zero, List.set_cons_succ]
      have HBR : Hid (Below wr.heap.size wr w7) := HB4.out.trans (HB7.out.mono HB4.out.size)
      have HD7 : Hid (DgV w7 w1.heap.size u10 (besideD z ls (sp.take k))) := HD.out.below HBR.out (Nat.le_refl _)
      have HLN : Hid ((besideD z ls (sp.take k)).length = k) := by show _ = _; rw [besideD, List.length_map, List.length_take]; have := HL.out; omega
      obtain ⟨D, HDq⟩ : ∃ D, Hid (besideD z ls (sp.take k) = D) := ⟨_, rfl⟩
      rw [HDq.out] at HD7 HLN
      have HOB : Hid (∀ q, u10.ownBlock = some q → w1.heap.size ≤ q ∧ q < wr.heap.size) := fun q hq => by
        have h := HD.out.1.lt q hq
        exact h
      refine wpAnyH_ready (rs := [7]) (by kernel_rfl) (by simp) ?_
      refine AllReadyH.cons rfl (fun K hK => ?_) AllReadyH.nil
      refine step_append_twok _ rfl (.tmp 38) (.tmp 44) 40 24 rfl i0 _ 32 32 Tryd.underlying40 hi hz0 hz1 hz2 rfl (by decide) w1.heap.size u10 D.length (digC D) rfl HD7.out.1 (Nat.le_trans HBE.out.size HBR.out.size) w6.heap.size 1 1 (cellsOf d) rfl (by rw [cellsOf_length, HDL.out]) HC7.out (cellsOf_one d) (by have := HLN.out; have := HOL.out; omega) (by decide) ?_
      intro v8 w8 hown8 hb8 hk8 hn8
      have HV8 : Hid (DgV w8 w1.heap.size v8 (D ++ [d])) := ⟨by rw [digC_app, List.length_append]; simpa [digC] using hown8, fun h => by simp at h, fun e he => by
        rcases List.mem_append.1 he with h | h
        · exact HD7.out.2.2 e h
        · rw [List.mem_singleton] at h; rw [h]; exact HDL.out⟩
      have HB8 : Hid (Below w1.heap.size w1 w8) := (HBE.out.trans (HBR.out.mono HBE.out.size)).trans hb8
      have HK8 : Hid (∀ q, q < W4.heap.size → q < w1.heap.size ∨ q = wr.heap.size → w8.heap[q]? = W4.heap[q]?) := fun q hq h => by
        rw [hk8 q (Nat.lt_of_lt_of_le hq HB7.out.size) (fun e => by have := HOB.out q e.symm; omega)]
        exact HB7.out.block q hq
      refine hK.out _ _ (HS.out _ HK8.out) (fun hHeld2 => ?_)
      clear hK K hown8 hb8 hk8 hn8
      simp only [Act.put, List.getElem_toArray, List.getElem_cons_zero, List.getElem_cons_succ, List.setIfInBounds_toArray, List.set_cons_zero, List.set_cons_succ]
      refine wpAnyH_take (i := 8) (v := ?_) rfl (by kernel_rfl) (by kernel_rfl) (by kernel_rfl) (fun _ _ _ h => h) (Or.inl ⟨by rfl, ?_⟩) (by assumption) ?_
      rotate_left
      · (intro w hSw; (try dsimp only at hSw); go_simp; try with_reducible rfl)
      simp only [Act.put, List.getElem_toArray, List.getElem_cons_zero, List.getElem_cons_succ, List.setIfInBounds_toArray, List.set_cons_zero, List.set_cons_succ]
      refine wpAnyH_done (by kernel_rfl) ?_ _
      clear hS hHeld2
      have HT : Hid (besideD z ls (sp.take (k + 1)) = D ++ [d]) := by
        show _ = _
        rw [← HDq.out, ← HDD.out, besideD, besideD, List.take_add_one, HP.out]
        simp
      rw [← HT.out] at HV8
      have hk1 : k + 1 ≤ L := by omega
      clear HOB
      go_wp2_with fail
      have hL2 := HOL.out
      rw [wrap64_small _ (by omega) (by omega)]
      refine ⟨⟨k + 1, rfl, hk1, HV8, HB8⟩, ?_⟩
      simp [intOf]
      omega
/-- tree.Range of a tree, of leaves that there are or aren't. -/
def rangeOk (n : Nat) (x y : Int) : Bool := decide (0 ≤ x ∧ x < y ∧ y ≤ n)
end Go.Proofs.YtaebpnednhkfhaaDoor
