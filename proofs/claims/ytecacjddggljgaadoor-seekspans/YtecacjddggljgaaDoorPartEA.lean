/-
  Pairs in memory, and what clash's beside answers: contracts over this translation. What clash's beside answers: a contract over this translation. What clash's leftCount and pairOf answer: contracts over this translation.
-/
import Derived.Test.YtecacjddggljgaaDoorPartDA
namespace Go.Proofs.YtecacjddggljgaaDoor.Sm
open Go.RowKit
/-- The cells of a pair. -/
def pairC (oo : Option Addr) (on oc : Nat) (od : List UInt8) (ro : Option Addr) (rn rc : Nat) (rd : List UInt8) (lp rp : Option Addr) : Array Value := ((Value.slice oo on oc :: cellsOf od) ++ ((Value.slice ro rn rc :: cellsOf rd) ++ [Value.pointer lp, Value.pointer rp])).toArray
theorem built137v (oo : Option Addr) (on oc : Nat) (ro : Option Addr) (rn rc : Nat) (x0 x1 x2 x3 x4 x5 x6 x7 x8 x9 x10 x11 x12 x13 x14 x15 x16 x17 x18 x19 x20 x21 x22 x23 x24 x25 x26 x27 x28 x29 x30 x31 y0 y1 y2 y3 y4 y5 y6 y7 y8 y9 y10 y11 y12 y13 y14 y15 y16 y17 y18 y19 y20 y21 y22 y23 y24 y25 y26 y27 y28 y29 y30 y31 : UInt8) : Tryd.prog.built 158 [(0, .agg (kc oo on oc [x0, x1, x2, x3, x4, x5, x6, x7, x8, x9, x10, x11, x12, x13, x14, x15, x16, x17, x18, x19, x20, x21, x22, x23, x24, x25, x26, x27, x28, x29, x30, x31])), (1, .agg (kc ro rn rc [y0, y1, y2, y3, y4, y5, y6, y7, y8, y9, y10, y11, y12, y13, y14, y15, y16, y17, y18, y19, y20, y21, y22, y23, y24, y25, y26, y27, y28, y29, y30, y31]))] = some (pairC oo on oc [x0, x1, x2, x3, x4, x5, x6, x7, x8, x9, x10, x11, x12, x13, x14, x15, x16, x17, x18, x19, x20, x21, x22, x23, x24, x25, x26, x27, x28, x29, x30, x31] ro rn rc [y0, y1, y2, y3, y4, y5, y6, y7, y8, y9, y10, y11, y12, y13, y14, y15, y16, y17, y18, y19, y20, y21, y22, y23, y24, y25, y26, y27, y28, y29, y30, y31] none none) := by kernel_rfl
theorem built137w (oo : Option Addr) (on oc : Nat) (ro : Option Addr) (rn rc : Nat) (lp rp : Option Addr) (x0 x1 x2 x3 x4 x5 x6 x7 x8 x9 x10 x11 x12 x13 x14 x15 x16 x17 x18 x19 x20 x21 x22 x23 x24 x25 x26 x27 x28 x29 x30 x31 y0 y1 y2 y3 y4 y5 y6 y7 y8 y9 y10 y11 y12 y13 y14 y15 y16 y17 y18 y19 y20 y21 y22 y23 y24 y25 y26 y27 y28 y29 y30 y31 : UInt8) : Tryd.prog.built 158 [(0, .agg (kc oo on oc [x0, x1, x2, x3, x4, x5, x6, x7, x8, x9, x10, x11, x12, x13, x14, x15, x16, x17, x18, x19, x20, x21, x22, x23, x24, x25, x26, x27, x28, x29, x30, x31])), (1, .agg (kc ro rn rc [y0, y1, y2, y3, y4, y5, y6, y7, y8, y9, y10, y11, y12, y13, y14, y15, y16, y17, y18, y19, y20, y21, y22, y23, y24, y25, y26, y27, y28, y29, y30, y31])), (2, .pointer lp), (3, .pointer rp)] = some (pairC oo on oc [x0, x1, x2, x3, x4, x5, x6, x7, x8, x9, x10, x11, x12, x13, x14, x15, x16, x17, x18, x19, x20, x21, x22, x23, x24, x25, x26, x27, x28, x29, x30, x31] ro rn rc [y0, y1, y2, y3, y4, y5, y6, y7, y8, y9, y10, y11, y12, y13, y14, y15, y16, y17, y18, y19, y20, y21, y22, y23, y24, y25, y26, y27, y28, y29, y30, y31] lp rp) := by kernel_rfl
theorem built137 (oo : Option Addr) (on oc : Nat) (ro : Option Addr) (rn rc : Nat) : (d e : List UInt8) → d.length = 32 → e.length = 32 → Tryd.prog.built 158 [(0, .agg (kc oo on oc d)), (1, .agg (kc ro rn rc e))] = some (pairC oo on oc d ro rn rc e none none)
  | [x0, x1, x2, x3, x4, x5, x6, x7, x8, x9, x10, x11, x12, x13, x14, x15, x16, x17, x18, x19, x20, x21, x22, x23, x24, x25, x26, x27, x28, x29, x30, x31], [y0, y1, y2, y3, y4, y5, y6, y7, y8, y9, y10, y11, y12, y13, y14, y15, y16, y17, y18, y19, y20, y21, y22, y23, y24, y25, y26, y27, y28, y29, y30, y31], _, _ => built137v oo on oc ro rn rc x0 x1 x2 x3 x4 x5 x6 x7 x8 x9 x10 x11 x12 x13 x14 x15 x16 x17 x18 x19 x20 x21 x22 x23 x24 x25 x26 x27 x28 x29 x30 x31 y0 y1 y2 y3 y4 y5 y6 y7 y8 y9 y10 y11 y12 y13 y14 y15 y16 y17 y18 y19 y20 y21 y22 y23 y24 y25 y26 y27 y28 y29 y30 y31
theorem built137p (oo : Option Addr) (on oc : Nat) (ro : Option Addr) (rn rc : Nat) (lp rp : Option Addr) : (d e : List UInt8) → d.length = 32 → e.length = 32 → Tryd.prog.built 158 [(0, .agg (kc oo on oc d)), (1, .agg (kc ro rn rc e)), (2, .pointer lp), (3, .pointer rp)] = some (pairC oo on oc d ro rn rc e lp rp)
  | [x0, x1, x2, x3, x4, x5, x6, x7, x8, x9, x10, x11, x12, x13, x14, x15, x16, x17, x18, x19, x20, x21, x22, x23, x24, x25, x26, x27, x28, x29, x30, x31], [y0, y1, y2, y3, y4, y5, y6, y7, y8, y9, y10, y11, y12, y13, y14, y15, y16, y17, y18, y19, y20, y21, y22, y23, y24, y25, y26, y27, y28, y29, y30, y31], _, _ => built137w oo on oc ro rn rc lp rp x0 x1 x2 x3 x4 x5 x6 x7 x8 x9 x10 x11 x12 x13 x14 x15 x16 x17 x18 x19 x20 x21 x22 x23 x24 x25 x26 x27 x28 x29 x30 x31 y0 y1 y2 y3 y4 y5 y6 y7 y8 y9 y10 y11 y12 y13 y14 y15 y16 y17 y18 y19 y20 y21 y22 y23 y24 y25 y26 y27 y28 y29 y30 y31
/-- A pair's tree in memory, of blocks from base on. -/
def PairV (w : World) (base : Nat) : {k : Nat} → PT k → Option Addr → Prop
  | 0, _, p => p = none
  | k + 1, T, p => match (T : Option ((List UInt8 × List UInt8 × List UInt8 × List UInt8) × PT k × PT k)) with
    | none => p = none
    | some q => ∃ (g : Nat) (oo : Option Addr) (on oc : Nat) (ro : Option Addr) (rn rc : Nat) (lp rp : Option Addr), (p = some ⟨g, 0, none⟩ ∧ base ≤ g ∧ w.heap[g]? = some (.cells (pairC oo on oc q.1.2.2.1 ro rn rc q.1.2.2.2 lp rp) 158 (0, 0)) ∧ q.1.2.2.1.length = 32 ∧ q.1.2.2.2.length = 32) ∧ (TxV w oo on oc q.1.1 ∧ TxB base oo) ∧ (TxV w ro rn rc q.1.2.1 ∧ TxB base ro) ∧ PairV w base q.2.1 lp ∧ PairV w base q.2.2 rp
theorem PairV_nil {w : World} {base k : Nat} {p : Option Addr} : PairV w base (PT.nil : PT k) p ↔ p = none := by cases k <;> exact Iff.rfl
theorem PairV_mk {w : World} {base k : Nat} {ot rt od rd : List UInt8} {l r : PT k} {p : Option Addr} : PairV w base (PT.mk ot rt od rd l r) p ↔ ∃ (g : Nat) (oo : Option Addr) (on oc : Nat) (ro : Option Addr) (rn rc : Nat) (lp rp : Option Addr), (p = some ⟨g, 0, none⟩ ∧ base ≤ g ∧ w.heap[g]? = some (.cells (pairC oo on oc od ro rn rc rd lp rp) 158 (0, 0)) ∧ od.length = 32 ∧ rd.length = 32) ∧ (TxV w oo on oc ot ∧ TxB base oo) ∧ (TxV w ro rn rc rt ∧ TxB base ro) ∧ PairV w base l lp ∧ PairV w base r rp := Iff.rfl
theorem TxV.chg {w w' : World} {f n c base : Nat} {ao : Option Addr} {bs : List UInt8} (h : TxV w ao n c bs) (hb : TxB base ao) (hc : Chg f w w') (hf : f < base) : TxV w' ao n c bs :=
  ⟨⟨h.1.1, fun i u hu => by
    obtain ⟨x, hx, hce⟩ := h.1.2 i u hu
    refine ⟨x, hx, chg_cell hc hce ?_⟩
    have := hb x hx
    have e : (x.add i).block = x.block := by unfold Addr.add; split <;> rfl
    rw [e]; omega⟩, h.2⟩
theorem PairV.chg {w w' : World} {f base : Nat} (hc : Chg f w w') (hf : f < base) : ∀ {k : Nat} {T : PT k} {p : Option Addr}, PairV w base T p → PairV w' base T p := by
  intro k
  induction k with
  | zero => intro T p h; exact h
  | succ k ih =>
    intro T p h
    rcases PT.two T with rfl | ⟨ot, rt, od, rd, l, r, rfl⟩
    · exact PairV_nil.2 (PairV_nil.1 h)
    · obtain ⟨g, oo, on, oc, ro, rn, rc, lp, rp, ⟨h1, h2, h3, h4⟩, ⟨h5, h6⟩, ⟨h7, h8⟩, h9, h10⟩ := PairV_mk.1 h
      exact PairV_mk.2 ⟨g, oo, on, oc, ro, rn, rc, lp, rp, ⟨h1, h2, (hc.block g (Array.getElem?_eq_some_iff.1 h3).1 (by omega)).trans h3, h4⟩, ⟨h5.chg h6 hc hf, h6⟩, ⟨h7.chg h8 hc hf, h8⟩, ih h9, ih h10⟩
theorem PairV.below {w w' : World} {base B : Nat} (hb : Below B w w') (hB : w.heap.size ≤ B) : ∀ {k : Nat} {T : PT k} {p : Option Addr}, PairV w base T p → PairV w' base T p := by
  intro k
  induction k with
  | zero => intro T p h; exact h
  | succ k ih =>
    intro T p h
    rcases PT.two T with rfl | ⟨ot, rt, od, rd, l, r, rfl⟩
    · exact PairV_nil.2 (PairV_nil.1 h)
    · obtain ⟨g, oo, on, oc, ro, rn, rc, lp, rp, ⟨h1, h2, h3, h4⟩, ⟨h5, h6⟩, ⟨h7, h8⟩, h9, h10⟩ := PairV_mk.1 h
      exact PairV_mk.2 ⟨g, oo, on, oc, ro, rn, rc, lp, rp, ⟨h1, h2, (hb.block g (Nat.lt_of_lt_of_le (Array.getElem?_eq_some_iff.1 h3).1 hB)).trans h3, h4⟩, ⟨h5.below hb hB, h6⟩, ⟨h7.below hb hB, h8⟩, ih h9, ih h10⟩
theorem PairV.mono {w : World} {a b : Nat} (hab : a ≤ b) : ∀ {k : Nat} {T : PT k} {p : Option Addr}, PairV w b T p → PairV w a T p := by
  intro k
  induction k with
  | zero => intro T p h; exact h
  | succ k ih =>
    intro T p h
    rcases PT.two T with rfl | ⟨ot, rt, od, rd, l, r, rfl⟩
    · exact PairV_nil.2 (PairV_nil.1 h)
    · obtain ⟨g, oo, on, oc, ro, rn, rc, lp, rp, ⟨h1, h2, h3, h4⟩, ⟨h5, h6⟩, ⟨h7, h8⟩, h9, h10⟩ := PairV_mk.1 h
      exact PairV_mk.2 ⟨g, oo, on, oc, ro, rn, rc, lp, rp, ⟨h1, by omega, h3, h4⟩, ⟨h5, h6.mono hab⟩, ⟨h7, h8.mono hab⟩, ih h9, ih h10⟩
/-- The cells of a pair, one by one. -/
theorem pair_rows {w : World} {g : Nat} {oo : Option Addr} {on oc : Nat} {od : List UInt8} {ro : Option Addr} {rn rc : Nat} {rd : List UInt8} {lp rp : Option Addr} {t : TypeId} {fr : Nat × Nat} (h : w.heap[g]? = some (.cells (pairC oo on oc od ro rn rc rd lp rp) t fr)) (h1 : od.length = 32) (h2 : rd.length = 32) :
    w.rangeAt g 0 (Value.slice oo on oc :: cellsOf od) ∧ w.rangeAt g 33 (Value.slice ro rn rc :: cellsOf rd) ∧ w.cell? ⟨g, 66, none⟩ = some (.pointer lp) ∧ w.cell? ⟨g, 67, none⟩ = some (.pointer rp) := by
  have l1 : (Value.slice oo on oc :: cellsOf od).length = 33 := by rw [List.length_cons, cellsOf_length, h1]
  have l2 : (Value.slice ro rn rc :: cellsOf rd).length = 33 := by rw [List.length_cons, cellsOf_length, h2]
  refine ⟨fun j v hv => ?_, fun j v hv => ?_, ?_, ?_⟩
  · rw [cell_of_row _ _ _ _ _ _ h, pairC, List.getElem?_toArray, Nat.zero_add, List.getElem?_append_left (List.getElem?_eq_some_iff.1 hv).1]; exact hv
  · rw [cell_of_row _ _ _ _ _ _ h, pairC, List.getElem?_toArray, List.getElem?_append_right (by omega), l1, show 33 + j - 33 = j by omega, List.getElem?_append_left (List.getElem?_eq_some_iff.1 hv).1]; exact hv
  · rw [cell_of_row _ _ _ _ _ _ h, pairC, List.getElem?_toArray, List.getElem?_append_right (by omega), l1, List.getElem?_append_right (by omega), l2]; rfl
  · rw [cell_of_row _ _ _ _ _ _ h, pairC, List.getElem?_toArray, List.getElem?_append_right (by omega), l1, List.getElem?_append_right (by omega), l2]; rfl
/-- The cells of an opening. -/
def opC (z : Int) (ro : Option Addr) (rn rc : Nat) (x : Int) (qo : Option Addr) (qn qc : Nat) (po : Option Addr) (pn pc : Nat) : Array Value := #[.int .i64 z, .slice ro rn rc, .int .i64 x, .slice qo qn qc, .slice po pn pc]
theorem op_cells {w : World} {f : Nat} {z : Int} {ro : Option Addr} {rn rc : Nat} {x : Int} {qo : Option Addr} {qn qc : Nat} {po : Option Addr} {pn pc : Nat} (h : w.heap[f]? = some (.cells (opC z ro rn rc x qo qn qc po pn pc) 110 (0, 0))) :
    w.cell? ⟨f, 0, none⟩ = some (.int .i64 z) ∧ w.cell? ⟨f, 1, none⟩ = some (.slice ro rn rc) ∧ w.cell? ⟨f, 2, none⟩ = some (.int .i64 x) ∧ w.cell? ⟨f, 3, none⟩ = some (.slice qo qn qc) ∧ w.cell? ⟨f, 4, none⟩ = some (.slice po pn pc) :=
  ⟨by rw [cell_of_row _ _ 0 _ _ _ h]; rfl, by rw [cell_of_row _ _ 1 _ _ _ h]; rfl, by rw [cell_of_row _ _ 2 _ _ _ h]; rfl, by rw [cell_of_row _ _ 3 _ _ _ h]; rfl, by rw [cell_of_row _ _ 4 _ _ _ h]; rfl⟩
theorem set_opath {w : World} {f : Nat} {z : Int} {ro : Option Addr} {rn rc : Nat} {x : Int} {qo : Option Addr} {qn qc : Nat} {po : Option Addr} {pn pc : Nat} (h : w.heap[f]? = some (.cells (opC z ro rn rc x qo qn qc po pn pc) 110 (0, 0))) (po' : Option Addr) (pn' pc' : Nat) :
    (w.setCell ⟨f, 4, none⟩ (.slice po' pn' pc')).heap[f]? = some (.cells (opC z ro rn rc x qo qn qc po' pn' pc') 110 (0, 0)) ∧ Chg f w (w.setCell ⟨f, 4, none⟩ (.slice po' pn' pc')) := by
  refine ⟨?_, rfl, rfl, rfl, by unfold World.setCell; simp, fun q _ hq => ?_⟩
  · unfold World.setCell
    dsimp only
    rw [Array.getElem?_modify, if_pos rfl, h]
    rfl
  · unfold World.setCell
    dsimp only
    rw [Array.getElem?_modify, if_neg (by omega)]
end Go.Proofs.YtecacjddggljgaaDoor.Sm
namespace Go.Proofs.YtecacjddggljgaaDoor.Sm
open Go.RowKit
set_option maxHeartbeats 4000000 in
set_option maxRecDepth 100000 in
theorem beside_any {k : Nat} (a b : Nat) (z : Int) (rb rf rn rc : Nat) (x0 : Int) (qo : Option Addr) (qn qc f pb po pn pc : Nat) (x rt : List UInt8) (w : World) (hab : a < b) (hbn : b ≤ rn) (hnc : rn ≤ rc) (hf : w.heap[f]? = some (.cells (opC z (some ⟨rb, rf, none⟩) rn rc x0 qo qn qc (some ⟨pb, po, none⟩) pn pc) 110 (0, 0))) (hp : 0 < pn) (hpc : pn ≤ pc)
    (hx : w.rangeAt pb po (cellsOf x)) (hxl : x.length = 32) (hrl : rt.length = 32) (nx : Option Addr) (hnx : (if pc = 1 then some (⟨pb, po, none⟩ : Addr) else some ⟨pb, po + 32, none⟩) = nx)
    (hRO : ∀ W, Chg f w W → Calls Tryd.prog 63 #[.agg #[.int .i64 z], .slice (some ⟨rb, rf + a, none⟩) (b - a) (rc - a)] W fun e w' => e = .returned (dv rt) ∧ Below W.heap.size W w') :
    Calls Tryd.prog 98 #[.pointer (some ⟨f, 0, none⟩), .int .i64 (a : Int), .int .i64 (b : Int)] w fun e w' => ∃ p, e = .returned (.pointer p) ∧ PairV w' w.heap.size (.mk [] [] x rt (.nil : PT k) .nil) p ∧ w'.heap[f]? = some (.cells (opC z (some ⟨rb, rf, none⟩) rn rc x0 qo qn qc nx (pn - 1) (pc - 1)) 110 (0, 0)) ∧ Chg f w w' := by
  have HNX : Hid ((if pc = 1 then some (⟨pb, po, none⟩ : Addr) else some ⟨pb, po + 32, none⟩) = nx) := hnx
  have y1 := zi (Nat.le_of_lt hab)
  have y2 := zi (Nat.le_trans hbn hnc)
  have y3 := zl (Nat.lt_of_lt_of_le hab (Nat.le_trans hbn hnc))
  have hra : ¬ rc = a := by omega
  have HFW : Hid _ := hf
  have HX : Hid (w.rangeAt pb po (cellsOf x)) := hx
  have HXL : Hid (x.length = 32) := hxl
  have HRL : Hid (rt.length = 32) := hrl
  have HFL : Hid (f < w.heap.size) := (Array.getElem?_eq_some_iff.1 hf).1
  have HRO : Hid (∀ W, Chg f w W → Calls Tryd.prog 63 #[.agg #[.int .i64 z], .slice (some ⟨rb, rf + a, none⟩) (b - a) (rc - a)] W fun e w' => e = .returned (.agg (cellsOf rt).toArray) ∧ Below W.heap.size W w') := hRO
  have HID : Hid ((Tryd.prog.info? 46).map (·.size) = some (cellsOf x).length) := by show _ = _; rw [size24, cellsOf_length, HXL.out]
  have hpz : (0 : Int) < (pn : Int) := by omega
  have HN1 : Hid ((w.alloc (.cells #[Value.int IntKind.u8 0, Value.int IntKind.u8 0, Value.int IntKind.u8 0, Value.int IntKind.u8 0, Value.int IntKind.u8 0, Value.int IntKind.u8 0, Value.int IntKind.u8 0, Value.int IntKind.u8 0, Value.int IntKind.u8 0, Value.int IntKind.u8 0, Value.int IntKind.u8 0, Value.int IntKind.u8 0, Value.int IntKind.u8 0, Value.int IntKind.u8 0, Value.int IntKind.u8 0, Value.int IntKind.u8 0, Value.int IntKind.u8 0, Value.int IntKind.u8 0, Value.int IntKind.u8 0, Value.int IntKind.u8 0, Value.int IntKind.u8 0, Value.int IntKind.u8 0, Value.int IntKind.u8 0, Value.int IntKind.u8 0, Value.int IntKind.u8 0, Value.int IntKind.u8 0, Value.int IntKind.u8 0, Value.int IntKind.u8 0, Value.int IntKind.u8 0, Value.int IntKind.u8 0, Value.int IntKind.u8 0, Value.int IntKind.u8 0] 46)).heap[w.heap.size]? = some (.cells #[Value.int IntKind.u8 0, Value.int IntKind.u8 0, Value.int IntKind.u8 0, Value.int IntKind.u8 0, Value.int IntKind.u8 0, Value.int IntKind.u8 0, Value.int IntKind.u8 0, Value.int IntKind.u8 0, Value.int IntKind.u8 0, Value.int IntKind.u8 0, Value.int IntKind.u8 0, Value.int IntKind.u8 0, Value.int IntKind.u8 0, Value.int IntKind.u8 0, Value.int IntKind.u8 0, Value.int IntKind.u8 0, Value.int IntKind.u8 0, Value.int IntKind.u8 0, Value.int IntKind.u8 0, Value.int IntKind.u8 0, Value.int IntKind.u8 0, Value.int IntKind.u8 0, Value.int IntKind.u8 0, Value.int IntKind.u8 0, Value.int IntKind.u8 0, Value.int IntKind.u8 0, Value.int IntKind.u8 0, Value.int IntKind.u8 0, Value.int IntKind.u8 0, Value.int IntKind.u8 0, Value.int IntKind.u8 0, Value.int IntKind.u8 0] 46 (0, 0))) := heap_alloc_new w _
  obtain ⟨f0, f1, f2, f3, f4⟩ := op_cells hf
  clear hnx hab hbn hnc hf hx hxl hrl hRO
  go_enter Tryd.func98, Tryd.ntmps98
  go_upto_region 2 with (first | (refine wpList_load_mid rfl 46 (.tmp 12) rfl pb po rfl (cellsOf x) _ HX.out Tryd.underlying46 rfl HID.out ?_) | (refine wpList_store_row rfl 46 (.tmp 7) (.tmp 13) rfl w.heap.size (cellsOf x).toArray rfl rfl 46 _ HN1.out (by rw [size24, dig_size HXL.out]) (by rw [dig_size HXL.out]; rfl) (cells_all _) ?_))
  have HR2 := setRow_heap _ _ _ (cellsOf x).toArray _ _ HN1.out
  have HB2 : Below w.heap.size w ((w.alloc (.cells #[Value.int IntKind.u8 0, Value.int IntKind.u8 0, Value.int IntKind.u8 0, Value.int IntKind.u8 0, Value.int IntKind.u8 0, Value.int IntKind.u8 0, Value.int IntKind.u8 0, Value.int IntKind.u8 0, Value.int IntKind.u8 0, Value.int IntKind.u8 0, Value.int IntKind.u8 0, Value.int IntKind.u8 0, Value.int IntKind.u8 0, Value.int IntKind.u8 0, Value.int IntKind.u8 0, Value.int IntKind.u8 0, Value.int IntKind.u8 0, Value.int IntKind.u8 0, Value.int IntKind.u8 0, Value.int IntKind.u8 0, Value.int IntKind.u8 0, Value.int IntKind.u8 0, Value.int IntKind.u8 0, Value.int IntKind.u8 0, Value.int IntKind.u8 0, Value.int IntKind.u8 0, Value.int IntKind.u8 0, Value.int IntKind.u8 0, Value.int IntKind.u8 0, Value.int IntKind.u8 0, Value.int IntKind.u8 0, Value.int IntKind.u8 0] 46)).setRow w.heap.size (cellsOf x).toArray) := below_row (bel_alloc w _) (Nat.le_refl _) _
  obtain ⟨W2, HW2⟩ : ∃ W, Hid ((w.alloc (.cells #[Value.int IntKind.u8 0, Value.int IntKind.u8 0, Value.int IntKind.u8 0, Value.int IntKind.u8 0, Value.int IntKind.u8 0, Value.int IntKind.u8 0, Value.int IntKind.u8 0, Value.int IntKind.u8 0, Value.int IntKind.u8 0, Value.int IntKind.u8 0, Value.int IntKind.u8 0, Value.int IntKind.u8 0, Value.int IntKind.u8 0, Value.int IntKind.u8 0, Value.int IntKind.u8 0, Value.int IntKind.u8 0, Value.int IntKind.u8 0, Value.int IntKind.u8 0, Value.int IntKind.u8 0, Value.int IntKind.u8 0, Value.int IntKind.u8 0, Value.int IntKind.u8 0, Value.int IntKind.u8 0, Value.int IntKind.u8 0, Value.int IntKind.u8 0, Value.int IntKind.u8 0, Value.int IntKind.u8 0, Value.int IntKind.u8 0, Value.int IntKind.u8 0, Value.int IntKind.u8 0, Value.int IntKind.u8 0, Value.int IntKind.u8 0] 46)).setRow w.heap.size (cellsOf x).toArray = W) := ⟨_, rfl⟩
  rw [HW2.out] at HR2 HB2 ⊢
  have HR2 : Hid _ := HR2
  have HB2 : Hid (Below w.heap.size w W2) := HB2
  have HF2 : Hid (W2.heap[f]? = some (.cells (opC z (some ⟨rb, rf, none⟩) rn rc x0 qo qn qc (some ⟨pb, po, none⟩) pn pc) 110 (0, 0))) := (HB2.out.block _ HFL.out).trans HFW.out
  clear HW2 HN1 f0 f1 f2 f3 f4
  obtain ⟨f0, f1, f2, f3, f4⟩ := op_cells HF2.out
  have z4 := frozen_of_row W2 f 4 _ _ HF2.out
  have hp1 : (1 : Int) ≤ (pn : Int) := by omega
  have hp2 : (pn : Int) ≤ (pc : Int) := by omega
  go_upto_region 3 with fail
  rw [HNX.out]
  obtain ⟨g1, g2⟩ := set_opath HF2.out nx (pn - 1) (pc - 1)
  obtain ⟨W3, HW3⟩ : ∃ W, Hid (W2.setCell ⟨f, 4, none⟩ (.slice nx (pn - 1) (pc - 1)) = W) := ⟨_, rfl⟩
  rw [HW3.out] at g1 g2 ⊢
  have HG1 : Hid _ := g1
  have HG2 : Hid (Chg f W2 W3) := g2
  have HX3 : Hid (W3.heap[w.heap.size]? = some (.cells (cellsOf x).toArray 46 (0, 0))) := (g2.block _ (Array.getElem?_eq_some_iff.1 HR2.out).1 (by have := HFL.out; omega)).trans HR2.out
  have HC3 : Hid (Chg f w W3) := (chg_of_below HB2.out (Nat.le_refl _)).trans g2
  clear g1 g2 HW3 z4 hp1 hp2 f0 f1 f2 f3 f4
  have HS3 : Hid (∀ W, Below W3.heap.size W3 W → W.cell? ⟨f, 0, none⟩ = some (.int .i64 z) ∧ W.cell? ⟨f, 1, none⟩ = some (.slice (some ⟨rb, rf, none⟩) rn rc) ∧ W.rangeAt w.heap.size 0 (cellsOf x)) := fun W hW =>
    ⟨bel_cell2 hW (Nat.le_refl _) (op_cells HG1.out).1, bel_cell2 hW (Nat.le_refl _) (op_cells HG1.out).2.1, range_bel (range_of HX3.out) hW (Nat.le_refl _)⟩
  obtain ⟨k1, HK1⟩ : ∃ k, Hid (kc none 0 0 x = k) := ⟨_, rfl⟩
  obtain ⟨k2, HK2⟩ : ∃ k, Hid (kc none 0 0 rt = k) := ⟨_, rfl⟩
  obtain ⟨k3, HK3⟩ : ∃ k, Hid (pairC none 0 0 x none 0 0 rt none none = k) := ⟨_, rfl⟩
  have HBD1 : Hid (Tryd.prog.built 155 [(1, .agg (cellsOf x).toArray)] = some k1) := by show _ = _; rw [← HK1.out]; exact built134s x HXL.out
  have HBD2 : Hid (Tryd.prog.built 155 [(1, .agg (cellsOf rt).toArray)] = some k2) := by show _ = _; rw [← HK2.out]; exact built134s rt HRL.out
  have HBD3 : Hid (Tryd.prog.built 158 [(0, .agg k1), (1, .agg k2)] = some k3) := by show _ = _; rw [← HK1.out, ← HK2.out, ← HK3.out]; exact built137 none 0 0 none 0 0 x rt HXL.out HRL.out
  refine wp_region_held_drew (S := fun W => W.cell? ⟨f, 0, none⟩ = some (.int .i64 z) ∧ W.cell? ⟨f, 1, none⟩ = some (.slice (some ⟨rb, rf, none⟩) rn rc) ∧ W.rangeAt w.heap.size 0 (cellsOf x)) (by kernel_rfl) (HS3.out _ (Below.drew (Below.refl _ _))) (fun hS => ?_)
  refine wpAnyH_take (i := 0) (v := .agg (cellsOf x).toArray) rfl (by kernel_rfl) (by kernel_rfl) (by kernel_rfl) (fun _ _ _ h => h) (yieldsIf_load_mid (by rfl) 46 (.tmp 7) rfl w.heap.size 0 rfl (cellsOf x) _ (fun _ h => h.2.2) Tryd.underlying46 rfl HID.out) (by assumption) ?_
  simp only [Act.put, List.getElem_toArray, List.getElem_cons_zero, List.setIfInBounds_toArray, List.set_cons_zero, List.set_cons_succ]
  refine wpAnyH_take (i := 1) (v := .agg k1) rfl (by kernel_rfl) (by kernel_rfl) (by kernel_rfl) (fun _ _ _ h => h) (yieldsIf_build (by rfl) 155 #[(1, .tmp 22)] rfl k1 _ HBD1.out rfl) (by assumption) ?_
  simp only [Act.put, List.getElem_toArray, List.getElem_cons_zero, List.getElem_cons_succ, List.setIfInBounds_toArray, List.set_cons_zero, List.set_cons_succ]
  refine wpAnyH_take (i := 2) (v := ?_) rfl (by kernel_rfl) (by kernel_rfl) (by kernel_rfl) (fun _ _ _ h => h) (Or.inl ⟨by rfl, ?_⟩) (by assumption) ?_
  rotate_left
  · (intro w hSw; (try dsimp only at hSw); go_simp; try with_reducible rfl)
  simp only [Act.put, List.getElem_toArray, List.getElem_cons_zero, List.getElem_cons_succ, List.setIfInBounds_toArray, List.set_cons_zero, List.set_cons_succ]
  refine wpAnyH_take (i := 3) (v := ?_) rfl (by kernel_rfl) (by kernel_rfl) (by kernel_rfl) (fun _ _ _ h => h) (Or.inl ⟨by rfl, ?_⟩) (by assumption) ?_
  rotate_left
  · (intro w hSw; (try dsimp only at hSw); go_simp; try with_reducible rfl)
  simp only [Act.put, List.getElem_toArray, List.getElem_cons_zero, List.getElem_cons_succ, List.setIfInBounds_toArray, List.set_cons_zero, List.set_cons_succ]
  refine wpAnyH_take (i := 4) (v := ?_) rfl (by kernel_rfl) (by kernel_rfl) (by kernel_rfl) (fun _ _ _ h => h) (Or.inl ⟨by rfl, ?_⟩) (by assumption) ?_
  rotate_left
  · (intro w hSw; (try dsimp only at hSw); go_simp; try with_reducible rfl)
  simp only [Act.put, List.getElem_toArray, List.getElem_cons_zero, List.getElem_cons_succ, List.setIfInBounds_toArray, List.set_cons_zero, List.set_cons_succ]
  refine wpAnyH_take (i := 5) (v := ?_) rfl (by kernel_rfl) (by kernel_rfl) (by kernel_rfl) (fun _ _ _ h => h) (Or.inl ⟨by rfl, ?_⟩) (by assumption) ?_
  rotate_left
  · (intro w hSw; (try dsimp only at hSw); go_simp; try with_reducible rfl)
  simp only [Act.put, List.getElem_toArray, List.getElem_cons_zero, List.getElem_cons_succ, List.setIfInBounds_toArray, List.set_cons_zero, List.set_cons_succ]
  refine wpAnyH_take (i := 6) (v := ?_) rfl (by kernel_rfl) (by kernel_rfl) (by kernel_rfl) (fun _ _ _ h => h) (Or.inl ⟨by rfl, ?_⟩) (by assumption) ?_
  rotate_left
  · (intro w hSw; (try dsimp only at hSw); go_simp; try with_reducible rfl)
  simp only [Act.put, List.getElem_toArray, List.getElem_cons_zero, List.getElem_cons_succ, List.setIfInBounds_toArray, List.set_cons_zero, List.set_cons_succ]
  refine wpAnyH_take (i := 7) (v := ?_) rfl (by kernel_rfl) (by kernel_rfl) (by kernel_rfl) (fun _ _ _ h => h) (Or.inl ⟨by rfl, ?_⟩) (by assumption) ?_
  rotate_left
  · (intro w hSw; (try dsimp only at hSw); go_simp; try with_reducible rfl)
  simp only [Act.put, List.getElem_toArray, List.getElem_cons_zero, List.getElem_cons_succ, List.setIfInBounds_toArray, List.set_cons_zero, List.set_cons_succ]
  refine wpAnyH_take (i := 8) (v := ?_) rfl (by kernel_rfl) (by kernel_rfl) (by kernel_rfl) (fun _ _ _ h => h) (Or.inl ⟨by rfl, ?_⟩) (by assumption) ?_
  rotate_left
  · (intro w hSw; (try dsimp only at hSw); go_simp; try with_reducible rfl)
  simp only [Act.put, List.getElem_toArray, List.getElem_cons_zero, List.getElem_cons_succ, List.setIfInBounds_toArray, List.set_cons_zero, List.set_cons_succ]
  refine wpAnyH_take (i := 9) (v := ?_) rfl (by kernel_rfl) (by kernel_rfl) (by kernel_rfl) (fun _ _ _ h => h) (Or.inl ⟨by rfl, ?_⟩) (by assumption) ?_
  rotate_left
  · (intro w hSw; (try dsimp only at hSw); go_simp; try with_reducible rfl)
  simp only [Act.put, List.getElem_toArray, List.getElem_cons_zero, List.getElem_cons_succ, List.setIfInBounds_toArray, List.set_cons_zero, List.set_cons_succ]
  refine wpAnyH_take (i := 10) (v := ?_) rfl (by kernel_rfl) (by kernel_rfl) (by kernel_rfl) (fun _ _ _ h => h) (Or.inl ⟨by rfl, ?_⟩) (by assumption) ?_
  rotate_left
  · (intro w hSw; (try dsimp only at hSw); go_simp; try with_reducible rfl)
  simp only [Act.put, List.getElem_toArray, List.getElem_cons_zero, List.getElem_cons_succ, List.setIfInBounds_toArray, List.set_cons_zero, List.set_cons_succ]
  refine wpAnyH_take (i := 11) (v := ?_) rfl (by kernel_rfl) (by kernel_rfl) (by kernel_rfl) (fun _ _ _ h => h) (Or.inl ⟨by rfl, ?_⟩) (by assumption) ?_
  rotate_left
  · (intro w hSw; (try dsimp only at hSw); go_simp; try with_reducible rfl)
  simp only [Act.put, List.getElem_toArray, List.getElem_cons_zero, List.getElem_cons_succ, List.setIfInBounds_toArray, List.set_cons_zero, List.set_cons_succ]
  refine wpAnyH_take (i := 12) (v := ?_) rfl (by kernel_rfl) (by kernel_rfl) (by kernel_rfl) (fun _ _ _ h => h) (Or.inl ⟨by rfl, ?_⟩) (by assumption) ?_
  rotate_left
  · (intro w hSw; (try dsimp only at hSw); go_simp; try with_reducible rfl)
  simp only [Act.put, List.getElem_toArray, List.getElem_cons_zero, List.getElem_cons_succ, List.setIfInBounds_toArray, List.set_cons_zero, List.set_cons_succ]
  refine wpAnyH_ready (rs := [13]) (by kernel_rfl) (by simp) ?_
  refine AllReadyH.cons rfl (fun K hK => ?_) AllReadyH.nil
  go_simp
  refine (HRO.out _ HC3.out.drew).mono ?_
  rintro e w4 ⟨rfl, hb4⟩
  have HB4 : Hid (Below W3.heap.size W3 w4) := (Below.drew (Below.refl _ _)).trans hb4
  go_wp2_with fail
  refine hK.out _ _ (HS3.out _ HB4.out) (fun hHeld2 => ?_)
  clear hK K hb4
  refine wpAnyH_take (i := 14) (v := .agg k2) rfl (by kernel_rfl) (by kernel_rfl) (by kernel_rfl) (fun _ _ _ h => h) (yieldsIf_build (by rfl) 155 #[(1, .tmp 35)] rfl k2 _ HBD2.out rfl) (by assumption) ?_
  simp only [Act.put, List.getElem_toArray, List.getElem_cons_zero, List.getElem_cons_succ, List.setIfInBounds_toArray, List.set_cons_zero, List.set_cons_succ]
  refine wpAnyH_take (i := 15) (v := .agg k3) rfl (by kernel_rfl) (by kernel_rfl) (by kernel_rfl) (fun _ _ _ h => h) (yieldsIf_build (by rfl) 158 #[(0, .tmp 23), (1, .tmp 36)] rfl k3 _ HBD3.out rfl) (by assumption) ?_
  simp only [Act.put, List.getElem_toArray, List.getElem_cons_zero, List.getElem_cons_succ, List.setIfInBounds_toArray, List.set_cons_zero, List.set_cons_succ]
  refine wpAnyH_ready (rs := [16]) (by kernel_rfl) (by simp) ?_
  refine AllReadyH.cons rfl (fun K hK => ?_) AllReadyH.nil
  go_simp
  refine hK.out _ _ (HS3.out _ (HB4.out.alloc HB4.out.size _)) (fun hHeld2 => ?_)
  clear hK K
  refine wpAnyH_take (i := 17) (v := ?_) rfl (by kernel_rfl) (by kernel_rfl) (by kernel_rfl) (fun _ _ _ h => h) (Or.inl ⟨by rfl, ?_⟩) (by assumption) ?_
  rotate_left
  · (intro w hSw; (try dsimp only at hSw); go_simp; try with_reducible rfl)
  simp only [Act.put, List.getElem_toArray, List.getElem_cons_zero, List.getElem_cons_succ, List.setIfInBounds_toArray, List.set_cons_zero, List.set_cons_succ]
  refine wpAnyH_done (by kernel_rfl) ?_ _
  clear hS hHeld2
  go_wp2_with fail
  go_ret
  have hN := heap_alloc_new w4 (.cells k3 158)
  rw [← HK3.out] at hN ⊢
  have hsz : w.heap.size ≤ w4.heap.size := Nat.le_trans HC3.out.size HB4.out.size
  have hC4 : Chg f w (w4.alloc (.cells (pairC none 0 0 x none 0 0 rt none none) 158)) := HC3.out.trans (chg_of_below (HB4.out.alloc HB4.out.size _) (Nat.le_refl _))
  refine ⟨_, rfl, ⟨w4.heap.size, none, 0, 0, none, 0, 0, none, none, ⟨rfl, hsz, hN, HXL.out, HRL.out⟩, ⟨txv_nil _, fun x h => by cases h⟩, ⟨txv_nil _, fun x h => by cases h⟩, PairV_nil.2 rfl, PairV_nil.2 rfl⟩, ?_, hC4⟩
  rw [(HB4.out.alloc HB4.out.size _).block f (Nat.lt_of_lt_of_le HFL.out HC3.out.size)]
  exact HG1.out
end Go.Proofs.YtecacjddggljgaaDoor.Sm
namespace Go.Proofs.YtecacjddggljgaaDoor.Sm
open Go.RowKit
set_option maxHeartbeats 1000000 in
set_option maxRecDepth 100000 in
theorem left_any (n : Nat) (w : World) (h2 : 2 ≤ n) (hn : n ≤ 9223372036854775807) : Calls Tryd.prog 91 #[.int .i64 (n : Int)] w fun e w' => e = .returned (.int .i64 (halfN n : Int)) ∧ Below w.heap.size w w' := by
  obtain ⟨s1, s2, s3, s4, s5⟩ := halfN_spec n h2 hn
  obtain ⟨p, HP⟩ : ∃ p, Hid (halfN n = p) := ⟨_, rfl⟩
  obtain ⟨k, HKK⟩ : ∃ k, Hid (Lib.bitLen (n - 1) = k) := ⟨_, rfl⟩
  have HPK : Hid ((2 : Nat) ^ (k - 1) = p) := by show _ = _; rw [← HKK.out, ← HP.out, halfN]
  rw [HKK.out] at s4 s5
  rw [HP.out] at s2 ⊢
  have y2 : wrap64 ((n : Int) - 1) = ((n - 1 : Nat) : Int) := by unfold wrap64; omega
  have y3 : IntKind.u64.wrap ((n - 1 : Nat) : Int) = ((n - 1 : Nat) : Int) := (z1 (a := 0) (b := n) (by omega) hn).2.2
  have y4 : wrap64 ((k : Int) - 1) = ((k - 1 : Nat) : Int) := (z2 (a := 0) (p := p) (b := n) s5 s4 (by omega) hn).1
  have hsh := shl_val HPK.out (by omega)
  have CL := fun W => len_any (n - 1) W (by omega)
  rw [HKK.out] at CL
  have HCL : Hid _ := CL
  clear CL s1 s2 s3 h2 hn
  go_enter Tryd.func91, Tryd.ntmps91
  go_wp2_with fail
  refine (HCL.out _).mono ?_
  rintro e w1 ⟨rfl, rfl⟩
  go_wp2_with fail
  go_ret
  refine ⟨?_, Below.refl _ _⟩
  show Ending.returned (Value.int .i64 (wrap64 (2 ^ (k - 1)))) = _
  rw [hsh]
set_option maxHeartbeats 4000000 in
set_option maxRecDepth 100000 in
theorem pair_apart1 (a b c qn qc f : Nat) (z : Int) (ro : Option Addr) (rn rc : Nat) (qo : Option Addr) (po : Option Addr) (pn pc : Nat) (w : World) (hf : w.heap[f]? = some (.cells (opC z ro rn rc (c : Int) qo qn qc po pn pc) 110 (0, 0))) (h1 : b ≤ c) (R : Option Addr → World → Prop) (hR : Calls Tryd.prog 98 #[.pointer (some ⟨f, 0, none⟩), .int .i64 (a : Int), .int .i64 (b : Int)] w.drew fun e w' => ∃ p, e = .returned (.pointer p) ∧ R p w') :
    Calls Tryd.prog 69 #[.pointer (some ⟨f, 0, none⟩), .int .i64 (a : Int), .int .i64 (b : Int)] w fun e w' => ∃ p, e = .returned (.pointer p) ∧ R p w' := by
  have HFW : Hid _ := hf
  have HS1 : Hid (∀ W, Below w.heap.size w W → W.cell? ⟨f, 2, none⟩ = some (.int .i64 (c : Int)) ∧ W.cell? ⟨f, 3, none⟩ = some (.slice qo qn qc)) := fun W hW => ⟨bel_cell2 hW (Nat.le_refl _) (op_cells hf).2.2.1, bel_cell2 hW (Nat.le_refl _) (op_cells hf).2.2.2.1⟩
  have hbc : (b : Int) ≤ (c : Int) := by omega
  have HR : Hid _ := hR
  clear hf hR h1
  go_enter Tryd.func69, Tryd.ntmps69
  go_upto_region 1 with fail
  refine wp_region_held_drew (S := fun W => W.cell? ⟨f, 2, none⟩ = some (.int .i64 (c : Int)) ∧ W.cell? ⟨f, 3, none⟩ = some (.slice qo qn qc)) (by kernel_rfl) (HS1.out _ (Below.drew (Below.refl _ _))) (fun hS => ?_)
  refine wpAnyH_take (i := 0) (v := ?_) rfl (by kernel_rfl) (by kernel_rfl) (by kernel_rfl) (fun _ _ _ h => h) (Or.inl ⟨by rfl, ?_⟩) (by assumption) ?_
  rotate_left
  · (intro w hSw; (try dsimp only at hSw); go_simp; try with_reducible rfl)
  simp only [Act.put, List.getElem_toArray, List.getElem_cons_zero, List.setIfInBounds_toArray, List.set_cons_zero, List.set_cons_succ]
  refine wpAnyH_take (i := 1) (v := ?_) rfl (by kernel_rfl) (by kernel_rfl) (by kernel_rfl) (fun _ _ _ h => h) (Or.inl ⟨by rfl, ?_⟩) (by assumption) ?_
  rotate_left
  · (intro w hSw; (try dsimp only at hSw); go_simp; try with_reducible rfl)
  simp only [Act.put, List.getElem_toArray, List.getElem_cons_zero, List.getElem_cons_succ, List.setIfInBounds_toArray, List.set_cons_zero, List.set_cons_succ]
  refine wpAnyH_take (i := 2) (v := ?_) rfl (by kernel_rfl) (by kernel_rfl) (by kernel_rfl) (fun _ _ _ h => h) (Or.inl ⟨by rfl, ?_⟩) (by assumption) ?_
  rotate_left
  · (intro w hSw; (try dsimp only at hSw); go_simp; try with_reducible rfl)
  simp only [Act.put, List.getElem_toArray, List.getElem_cons_zero, List.getElem_cons_succ, List.setIfInBounds_toArray, List.set_cons_zero, List.set_cons_succ]
  refine wpAnyH_take (i := 3) (v := ?_) rfl (by kernel_rfl) (by kernel_rfl) (by kernel_rfl) (fun _ _ _ h => h) (Or.inl ⟨by rfl, ?_⟩) (by assumption) ?_
  rotate_left
  · (intro w hSw; (try dsimp only at hSw); go_simp; try with_reducible rfl)
  simp only [Act.put, List.getElem_toArray, List.getElem_cons_zero, List.getElem_cons_succ, List.setIfInBounds_toArray, List.set_cons_zero, List.set_cons_succ]
  refine wpAnyH_take (i := 4) (v := ?_) rfl (by kernel_rfl) (by kernel_rfl) (by kernel_rfl) (fun _ _ _ h => h) (Or.inl ⟨by rfl, ?_⟩) (by assumption) ?_
  rotate_left
  · (intro w hSw; (try dsimp only at hSw); go_simp; try with_reducible rfl)
  simp only [Act.put, List.getElem_toArray, List.getElem_cons_zero, List.getElem_cons_succ, List.setIfInBounds_toArray, List.set_cons_zero, List.set_cons_succ]
  refine wpAnyH_take (i := 5) (v := ?_) rfl (by kernel_rfl) (by kernel_rfl) (by kernel_rfl) (fun _ _ _ h => h) (Or.inl ⟨by rfl, ?_⟩) (by assumption) ?_
  rotate_left
  · (intro w hSw; (try dsimp only at hSw); go_simp; try with_reducible rfl)
  simp only [Act.put, List.getElem_toArray, List.getElem_cons_zero, List.getElem_cons_succ, List.setIfInBounds_toArray, List.set_cons_zero, List.set_cons_succ]
  refine wpAnyH_take (i := 6) (v := ?_) rfl (by kernel_rfl) (by kernel_rfl) (by kernel_rfl) (fun _ _ _ h => h) (Or.inl ⟨by rfl, ?_⟩) (by assumption) ?_
  rotate_left
  · (intro w hSw; (try dsimp only at hSw); go_simp; try with_reducible rfl)
  simp only [Act.put, List.getElem_toArray, List.getElem_cons_zero, List.getElem_cons_succ, List.setIfInBounds_toArray, List.set_cons_zero, List.set_cons_succ]
  refine wpAnyH_take (i := 7) (v := undef) rfl (by kernel_rfl) (by kernel_rfl) (by kernel_rfl) (fun _ _ _ h => h) (Or.inr ⟨by rfl, rfl⟩) (by assumption) ?_
  simp only [Act.put, List.getElem_toArray, List.getElem_cons_zero, List.getElem_cons_succ, List.setIfInBounds_toArray, List.set_cons_zero, List.set_cons_succ]
  refine wpAnyH_take (i := 8) (v := undef) rfl (by kernel_rfl) (by kernel_rfl) (by kernel_rfl) (fun _ _ _ h => h) (Or.inr ⟨by rfl, rfl⟩) (by assumption) ?_
  simp only [Act.put, List.getElem_toArray, List.getElem_cons_zero, List.getElem_cons_succ, List.setIfInBounds_toArray, List.set_cons_zero, List.set_cons_succ]
  refine wpAnyH_take (i := 9) (v := undef) rfl (by kernel_rfl) (by kernel_rfl) (by kernel_rfl) (fun _ _ _ h => h) (Or.inr ⟨by rfl, rfl⟩) (by assumption) ?_
  simp only [Act.put, List.getElem_toArray, List.getElem_cons_zero, List.getElem_cons_succ, List.setIfInBounds_toArray, List.set_cons_zero, List.set_cons_succ]
  refine wpAnyH_take (i := 10) (v := undef) rfl (by kernel_rfl) (by kernel_rfl) (by kernel_rfl) (fun _ _ _ h => h) (Or.inr ⟨by rfl, rfl⟩) (by assumption) ?_
  simp only [Act.put, List.getElem_toArray, List.getElem_cons_zero, List.getElem_cons_succ, List.setIfInBounds_toArray, List.set_cons_zero, List.set_cons_succ]
  refine wpAnyH_take (i := 11) (v := undef) rfl (by kernel_rfl) (by kernel_rfl) (by kernel_rfl) (fun _ _ _ h => h) (Or.inr ⟨by rfl, rfl⟩) (by assumption) ?_
  simp only [Act.put, List.getElem_toArray, List.getElem_cons_zero, List.getElem_cons_succ, List.setIfInBounds_toArray, List.set_cons_zero, List.set_cons_succ]
  refine wpAnyH_take (i := 12) (v := undef) rfl (by kernel_rfl) (by kernel_rfl) (by kernel_rfl) (fun _ _ _ h => h) (Or.inr ⟨by rfl, rfl⟩) (by assumption) ?_
  simp only [Act.put, List.getElem_toArray, List.getElem_cons_zero, List.getElem_cons_succ, List.setIfInBounds_toArray, List.set_cons_zero, List.set_cons_succ]
  refine wpAnyH_take (i := 13) (v := undef) rfl (by kernel_rfl) (by kernel_rfl) (by kernel_rfl) (fun _ _ _ h => h) (Or.inr ⟨by rfl, rfl⟩) (by assumption) ?_
  simp only [Act.put, List.getElem_toArray, List.getElem_cons_zero, List.getElem_cons_succ, List.setIfInBounds_toArray, List.set_cons_zero, List.set_cons_succ]
  refine wpAnyH_take (i := 14) (v := undef) rfl (by kernel_rfl) (by kernel_rfl) (by kernel_rfl) (fun _ _ _ h => h) (Or.inr ⟨by rfl, rfl⟩) (by assumption) ?_
  simp only [Act.put, List.getElem_toArray, List.getElem_cons_zero, List.getElem_cons_succ, List.setIfInBounds_toArray, List.set_cons_zero, List.set_cons_succ]
  refine wpAnyH_take (i := 15) (v := undef) rfl (by kernel_rfl) (by kernel_rfl) (by kernel_rfl) (fun _ _ _ h => h) (Or.inr ⟨by rfl, rfl⟩) (by assumption) ?_
  simp only [Act.put, List.getElem_toArray, List.getElem_cons_zero, List.getElem_cons_succ, List.setIfInBounds_toArray, List.set_cons_zero, List.set_cons_succ]
  refine wpAnyH_take (i := 16) (v := undef) rfl (by kernel_rfl) (by kernel_rfl) (by kernel_rfl) (fun _ _ _ h => h) (Or.inr ⟨by rfl, rfl⟩) (by assumption) ?_
  simp only [Act.put, List.getElem_toArray, List.getElem_cons_zero, List.getElem_cons_succ, List.setIfInBounds_toArray, List.set_cons_zero, List.set_cons_succ]
  refine wpAnyH_take (i := 17) (v := undef) rfl (by kernel_rfl) (by kernel_rfl) (by kernel_rfl) (fun _ _ _ h => h) (Or.inr ⟨by rfl, rfl⟩) (by assumption) ?_
  simp only [Act.put, List.getElem_toArray, List.getElem_cons_zero, List.getElem_cons_succ, List.setIfInBounds_toArray, List.set_cons_zero, List.set_cons_succ]
  refine wpAnyH_take (i := 18) (v := undef) rfl (by kernel_rfl) (by kernel_rfl) (by kernel_rfl) (fun _ _ _ h => h) (Or.inr ⟨by rfl, rfl⟩) (by assumption) ?_
  simp only [Act.put, List.getElem_toArray, List.getElem_cons_zero, List.getElem_cons_succ, List.setIfInBounds_toArray, List.set_cons_zero, List.set_cons_succ]
  refine wpAnyH_take (i := 19) (v := ?_) rfl (by kernel_rfl) (by kernel_rfl) (by kernel_rfl) (fun _ _ _ h => h) (Or.inl ⟨by rfl, ?_⟩) (by assumption) ?_
  rotate_left
  · (intro w hSw; (try dsimp only at hSw); go_simp; try with_reducible rfl)
  simp only [Act.put, List.getElem_toArray, List.getElem_cons_zero, List.getElem_cons_succ, List.setIfInBounds_toArray, List.set_cons_zero, List.set_cons_succ]
  refine wpAnyH_done (by kernel_rfl) ?_ _
  clear hS
  go_wp2_with fail
  refine Calls.mono HR.out ?_
  rintro e w1 ⟨p, rfl, hp⟩
  go_wp2_with fail
  go_ret
  exact ⟨p, rfl, hp⟩
set_option maxHeartbeats 4000000 in
set_option maxRecDepth 100000 in
theorem pair_apart2 (a b c qn qc f : Nat) (z : Int) (ro : Option Addr) (rn rc : Nat) (qo : Option Addr) (po : Option Addr) (pn pc : Nat) (w : World) (hf : w.heap[f]? = some (.cells (opC z ro rn rc (c : Int) qo qn qc po pn pc) 110 (0, 0))) (h1 : ¬ b ≤ c) (hcq : c + qn ≤ 9223372036854775807) (h2 : c + qn ≤ a) (R : Option Addr → World → Prop) (hR : Calls Tryd.prog 98 #[.pointer (some ⟨f, 0, none⟩), .int .i64 (a : Int), .int .i64 (b : Int)] w.drew fun e w' => ∃ p, e = .returned (.pointer p) ∧ R p w') :
    Calls Tryd.prog 69 #[.pointer (some ⟨f, 0, none⟩), .int .i64 (a : Int), .int .i64 (b : Int)] w fun e w' => ∃ p, e = .returned (.pointer p) ∧ R p w' := by
  have HFW : Hid _ := hf
  have HS1 : Hid (∀ W, Below w.heap.size w W → W.cell? ⟨f, 2, none⟩ = some (.int .i64 (c : Int)) ∧ W.cell? ⟨f, 3, none⟩ = some (.slice qo qn qc)) := fun W hW => ⟨bel_cell2 hW (Nat.le_refl _) (op_cells hf).2.2.1, bel_cell2 hW (Nat.le_refl _) (op_cells hf).2.2.2.1⟩
  have hbc : ¬ (b : Int) ≤ (c : Int) := by omega
  have hbcd : decide ((b : Int) ≤ (c : Int)) = false := by simp; omega
  have hbcn : decide (b ≤ c) = false := by simp; omega
  have hsum : wrap64 ((c : Int) + (qn : Int)) = ((c + qn : Nat) : Int) := wadd (Nat.le_refl _) hcq
  obtain ⟨d, HDD⟩ : ∃ d : Nat, Hid (c + qn = d) := ⟨_, rfl⟩
  rw [HDD.out] at hsum
  have hsum2 : IntKind.i64.wrap ((c : Int) + (qn : Int)) = (d : Int) := (IntWalk.i64_left _).trans hsum
  have hda : (d : Int) ≤ (a : Int) := by have := HDD.out; omega
  have HR : Hid _ := hR
  clear hf hR h1 h2 hcq
  go_enter Tryd.func69, Tryd.ntmps69
  go_upto_region 1 with fail
  refine wp_region_held_drew (S := fun W => W.cell? ⟨f, 2, none⟩ = some (.int .i64 (c : Int)) ∧ W.cell? ⟨f, 3, none⟩ = some (.slice qo qn qc)) (by kernel_rfl) (HS1.out _ (Below.drew (Below.refl _ _))) (fun hS => ?_)
  refine wpAnyH_take (i := 0) (v := ?_) rfl (by kernel_rfl) (by kernel_rfl) (by kernel_rfl) (fun _ _ _ h => h) (Or.inl ⟨by rfl, ?_⟩) (by assumption) ?_
  rotate_left
  · (intro w hSw; (try dsimp only at hSw); go_simp; try with_reducible rfl)
  simp only [Act.put, List.getElem_toArray, List.getElem_cons_zero, List.setIfInBounds_toArray, List.set_cons_zero, List.set_cons_succ]
  refine wpAnyH_take (i := 1) (v := ?_) rfl (by kernel_rfl) (by kernel_rfl) (by kernel_rfl) (fun _ _ _ h => h) (Or.inl ⟨by rfl, ?_⟩) (by assumption) ?_
  rotate_left
  · (intro w hSw; (try dsimp only at hSw); go_simp; try with_reducible rfl)
  simp only [Act.put, List.getElem_toArray, List.getElem_cons_zero, List.getElem_cons_succ, List.setIfInBounds_toArray, List.set_cons_zero, List.set_cons_succ]
  refine wpAnyH_take (i := 2) (v := ?_) rfl (by kernel_rfl) (by kernel_rfl) (by kernel_rfl) (fun _ _ _ h => h) (Or.inl ⟨by rfl, ?_⟩) (by assumption) ?_
  rotate_left
  · (intro w hSw; (try dsimp only at hSw); go_simp; try with_reducible rfl)
  simp only [Act.put, List.getElem_toArray, List.getElem_cons_zero, List.getElem_cons_succ, List.setIfInBounds_toArray, List.set_cons_zero, List.set_cons_succ]
  refine wpAnyH_take (i := 3) (v := ?_) rfl (by kernel_rfl) (by kernel_rfl) (by kernel_rfl) (fun _ _ _ h => h) (Or.inl ⟨by rfl, ?_⟩) (by assumption) ?_
  rotate_left
  · (intro w hSw; (try dsimp only at hSw); go_simp; try with_reducible rfl)
  simp only [Act.put, List.getElem_toArray, List.getElem_cons_zero, List.getElem_cons_succ, List.setIfInBounds_toArray, List.set_cons_zero, List.set_cons_succ]
  refine wpAnyH_take (i := 4) (v := ?_) rfl (by kernel_rfl) (by kernel_rfl) (by kernel_rfl) (fun _ _ _ h => h) (Or.inl ⟨by rfl, ?_⟩) (by assumption) ?_
  rotate_left
  · (intro w hSw; (try dsimp only at hSw); go_simp; try with_reducible rfl)
  simp only [Act.put, List.getElem_toArray, List.getElem_cons_zero, List.getElem_cons_succ, List.setIfInBounds_toArray, List.set_cons_zero, List.set_cons_succ]
  refine wpAnyH_take (i := 5) (v := ?_) rfl (by kernel_rfl) (by kernel_rfl) (by kernel_rfl) (fun _ _ _ h => h) (Or.inl ⟨by rfl, ?_⟩) (by assumption) ?_
  rotate_left
  · (intro w hSw; (try dsimp only at hSw); go_simp; try with_reducible rfl)
  simp only [Act.put, List.getElem_toArray, List.getElem_cons_zero, List.getElem_cons_succ, List.setIfInBounds_toArray, List.set_cons_zero, List.set_cons_succ]
  refine wpAnyH_take (i := 6) (v := ?_) rfl (by kernel_rfl) (by kernel_rfl) (by kernel_rfl) (fun _ _ _ h => h) (Or.inl ⟨by rfl, ?_⟩) (by assumption) ?_
  rotate_left
  · (intro w hSw; (try dsimp only at hSw); go_simp; try with_reducible rfl)
  simp only [Act.put, List.getElem_toArray, List.getElem_cons_zero, List.getElem_cons_succ, List.setIfInBounds_toArray, List.set_cons_zero, List.set_cons_succ]
  refine wpAnyH_take (i := 7) (v := ?_) rfl (by kernel_rfl) (by kernel_rfl) (by kernel_rfl) (fun _ _ _ h => h) (Or.inl ⟨by rfl, ?_⟩) (by assumption) ?_
  rotate_left
  · (intro w hSw; (try dsimp only at hSw); go_simp; try with_reducible rfl)
  simp only [Act.put, List.getElem_toArray, List.getElem_cons_zero, List.getElem_cons_succ, List.setIfInBounds_toArray, List.set_cons_zero, List.set_cons_succ]
  refine wpAnyH_take (i := 8) (v := ?_) rfl (by kernel_rfl) (by kernel_rfl) (by kernel_rfl) (fun _ _ _ h => h) (Or.inl ⟨by rfl, ?_⟩) (by assumption) ?_
  rotate_left
  · (intro w hSw; (try dsimp only at hSw); go_simp; try with_reducible rfl)
  simp only [Act.put, List.getElem_toArray, List.getElem_cons_zero, List.getElem_cons_succ, List.setIfInBounds_toArray, List.set_cons_zero, List.set_cons_succ]
  refine wpAnyH_take (i := 9) (v := ?_) rfl (by kernel_rfl) (by kernel_rfl) (by kernel_rfl) (fun _ _ _ h => h) (Or.inl ⟨by rfl, ?_⟩) (by assumption) ?_
  rotate_left
  · (intro w hSw; (try dsimp only at hSw); go_simp; try with_reducible rfl)
  simp only [Act.put, List.getElem_toArray, List.getElem_cons_zero, List.getElem_cons_succ, List.setIfInBounds_toArray, List.set_cons_zero, List.set_cons_succ]
  refine wpAnyH_take (i := 10) (v := ?_) rfl (by kernel_rfl) (by kernel_rfl) (by kernel_rfl) (fun _ _ _ h => h) (Or.inl ⟨by rfl, ?_⟩) (by assumption) ?_
  rotate_left
  · (intro w hSw; (try dsimp only at hSw); go_simp; try with_reducible rfl)
  simp only [Act.put, List.getElem_toArray, List.getElem_cons_zero, List.getElem_cons_succ, List.setIfInBounds_toArray, List.set_cons_zero, List.set_cons_succ]
  refine wpAnyH_take (i := 11) (v := ?_) rfl (by kernel_rfl) (by kernel_rfl) (by kernel_rfl) (fun _ _ _ h => h) (Or.inl ⟨by rfl, ?_⟩) (by assumption) ?_
  rotate_left
  · (intro w hSw; (try dsimp only at hSw); go_simp; try with_reducible rfl)
  simp only [Act.put, List.getElem_toArray, List.getElem_cons_zero, List.getElem_cons_succ, List.setIfInBounds_toArray, List.set_cons_zero, List.set_cons_succ]
  refine wpAnyH_take (i := 12) (v := ?_) rfl (by kernel_rfl) (by kernel_rfl) (by kernel_rfl) (fun _ _ _ h => h) (Or.inl ⟨by rfl, ?_⟩) (by assumption) ?_
  rotate_left
  · (intro w hSw; (try dsimp only at hSw); go_simp; try with_reducible rfl)
  simp only [Act.put, List.getElem_toArray, List.getElem_cons_zero, List.getElem_cons_succ, List.setIfInBounds_toArray, List.set_cons_zero, List.set_cons_succ]
  refine wpAnyH_take (i := 13) (v := ?_) rfl (by kernel_rfl) (by kernel_rfl) (by kernel_rfl) (fun _ _ _ h => h) (Or.inl ⟨by rfl, ?_⟩) (by assumption) ?_
  rotate_left
  · (intro w hSw; (try dsimp only at hSw); go_simp; try with_reducible rfl)
  simp only [Act.put, List.getElem_toArray, List.getElem_cons_zero, List.getElem_cons_succ, List.setIfInBounds_toArray, List.set_cons_zero, List.set_cons_succ]
  refine wpAnyH_take (i := 14) (v := ?_) rfl (by kernel_rfl) (by kernel_rfl) (by kernel_rfl) (fun _ _ _ h => h) (Or.inl ⟨by rfl, ?_⟩) (by assumption) ?_
  rotate_left
  · (intro w hSw; (try dsimp only at hSw); go_simp; try with_reducible rfl)
  simp only [Act.put, List.getElem_toArray, List.getElem_cons_zero, List.getElem_cons_succ, List.setIfInBounds_toArray, List.set_cons_zero, List.set_cons_succ]
  refine wpAnyH_take (i := 15) (v := ?_) rfl (by kernel_rfl) (by kernel_rfl) (by kernel_rfl) (fun _ _ _ h => h) (Or.inl ⟨by rfl, ?_⟩) (by assumption) ?_
  rotate_left
  · (intro w hSw; (try dsimp only at hSw); go_simp; try with_reducible rfl)
  simp only [Act.put, List.getElem_toArray, List.getElem_cons_zero, List.getElem_cons_succ, List.setIfInBounds_toArray, List.set_cons_zero, List.set_cons_succ]
  refine wpAnyH_take (i := 16) (v := ?_) rfl (by kernel_rfl) (by kernel_rfl) (by kernel_rfl) (fun _ _ _ h => h) (Or.inl ⟨by rfl, ?_⟩) (by assumption) ?_
  rotate_left
  · (intro w hSw; (try dsimp only at hSw); go_simp; try with_reducible rfl)
  simp only [Act.put, List.getElem_toArray, List.getElem_cons_zero, List.getElem_cons_succ, List.setIfInBounds_toArray, List.set_cons_zero, List.set_cons_succ]
  refine wpAnyH_take (i := 17) (v := ?_) rfl (by kernel_rfl) (by kernel_rfl) (by kernel_rfl) (fun _ _ _ h => h) (Or.inl ⟨by rfl, ?_⟩) (by assumption) ?_
  rotate_left
  · (intro w hSw; (try dsimp only at hSw); go_simp; try with_reducible rfl)
  simp only [Act.put, List.getElem_toArray, List.getElem_cons_zero, List.getElem_cons_succ, List.setIfInBounds_toArray, List.set_cons_zero, List.set_cons_succ]
  refine wpAnyH_take (i := 18) (v := ?_) rfl (by kernel_rfl) (by kernel_rfl) (by kernel_rfl) (fun _ _ _ h => h) (Or.inl ⟨by rfl, ?_⟩) (by assumption) ?_
  rotate_left
  · (intro w hSw; (try dsimp only at hSw); go_simp; try with_reducible rfl)
  simp only [Act.put, List.getElem_toArray, List.getElem_cons_zero, List.getElem_cons_succ, List.setIfInBounds_toArray, List.set_cons_zero, List.set_cons_succ]
  refine wpAnyH_take (i := 19) (v := ?_) rfl (by kernel_rfl) (by kernel_rfl) (by kernel_rfl) (fun _ _ _ h => h) (Or.inl ⟨by rfl, ?_⟩) (by assumption) ?_
  rotate_left
  · (intro w hSw; (try dsimp only at hSw); go_simp; try with_reducible rfl)
  simp only [Act.put, List.getElem_toArray, List.getElem_cons_zero, List.getElem_cons_succ, List.setIfInBounds_toArray, List.set_cons_zero, List.set_cons_succ]
  refine wpAnyH_done (by kernel_rfl) ?_ _
  clear hS
  go_wp2_with fail
  refine Calls.mono HR.out ?_
  rintro e w1 ⟨p, rfl, hp⟩
  go_wp2_with fail
  go_ret
  exact ⟨p, rfl, hp⟩
end Go.Proofs.YtecacjddggljgaaDoor.Sm
