/-
  What the law's point and two answer: contracts over this translation. Who opens something else shows two texts: the mathematics of points.
-/
import Derived.Test.YtecacjddggljgaaDoorPartDH
import Derived.Test.YtecacjddggljgaaDoorPartDB
import Derived.Test.YtecacjddggljgaaDoorPartED
import Derived.Test.YtecacjddggljgaaDoorPartDC
namespace Go.Proofs.YtecacjddggljgaaDoor
open Go.RowKit Go.Sort Go.Shelf
set_option linter.unusedSectionVars false
variable [Inhabited E] [DecidableEq E]
def twoB (z : Int) : Option (List UInt8 × List UInt8) → Bool
  | none => false
  | some p => !(decide (p.1 = p.2)) && (Sm.keptZ z p.1 == Sm.keptZ z p.2)
theorem eq_strs (a b : List UInt8) : ((⟨a.toArray⟩ : ByteArray).toList == (⟨b.toArray⟩ : ByteArray).toList) = decide (a = b) := by
  rw [eq_cmpS]
  refine decide_eq_decide.2 ⟨fun h => ?_, fun h => by rw [h]⟩
  have h2 := congrArg (fun x : ByteArray => x.data.toList) h
  simpa using h2
set_option maxRecDepth 100000 in
set_option maxHeartbeats 4000000 in
theorem two_any (z : Int) (o : Option (List UInt8 × List UInt8)) (ao : Option Addr) (n c : Nat) (bo : Option Addr) (m d : Nat) (w : World) (hA : Sm.TxV w ao n c (Sm.oA o)) (hB : Sm.TxV w bo m d (Sm.oB o)) (hK : Sm.WW w 1 Sm.ks) (hz0 : 1 < w.heap.size) (hz : -9223372036854775808 ≤ z ∧ z ≤ 9223372036854775807) :
    Calls Tryd.prog 34 #[.int .i64 z, .slice ao n c, .slice bo m d, .bool o.isSome] w fun e w' => e = .returned (.bool (twoB z o)) ∧ Below w.heap.size w w' := by
  cases o with
  | none =>
    go_enter Tryd.func34, Tryd.ntmps34
    go_wp2
    go_ret
    exact ⟨rfl, Below.refl _ _⟩
  | some p =>
    obtain ⟨a, b⟩ := p
    simp only [Sm.oA, Sm.oB, Option.isSome_some] at *
    have sa := str_bytes c hA.1
    have sb := str_bytes d hB.1
    have he := eq_strs a b
    obtain ⟨S1, HS1⟩ : ∃ x : ByteArray, Hid ((⟨a.toArray⟩ : ByteArray) = x) := ⟨_, rfl⟩
    obtain ⟨S2, HS2⟩ : ∃ x : ByteArray, Hid ((⟨b.toArray⟩ : ByteArray) = x) := ⟨_, rfl⟩
    rw [HS1.out] at sa he
    rw [HS2.out] at sb he
    have HKA : Hid (∀ V, Below w.heap.size w V → Calls Tryd.prog 67 #[.slice ao n c, .int .i64 z] V fun e w' => e = .returned (.agg (Sm.cellsOf (Sm.keptZ z a)).toArray) ∧ Below V.heap.size V w') := fun V hV => Sm.kept_cap ao n c a z V (Sm.bytes_kept hA.1 hV (Nat.le_refl _)) hA.2.2.1 hA.2.2.2.1 (by have := hA.2.2.2.2; omega) (hK.below hV hz0) (Nat.lt_of_lt_of_le hz0 hV.size) hz.1 hz.2
    have HKB : Hid (∀ V, Below w.heap.size w V → Calls Tryd.prog 67 #[.slice bo m d, .int .i64 z] V fun e w' => e = .returned (.agg (Sm.cellsOf (Sm.keptZ z b)).toArray) ∧ Below V.heap.size V w') := fun V hV => Sm.kept_cap bo m d b z V (Sm.bytes_kept hB.1 hV (Nat.le_refl _)) hB.2.2.1 hB.2.2.2.1 (by have := hB.2.2.2.2; omega) (hK.below hV hz0) (Nat.lt_of_lt_of_le hz0 hV.size) hz.1 hz.2
    have heq := fun W => Sm.equalIn_dig (Sm.keptZ z a) (Sm.keptZ z b) (Sm.keptZ_length z a) (Sm.keptZ_length z b) W
    obtain ⟨R, HR⟩ : ∃ r, Hid (twoB z (some (a, b)) = r) := ⟨_, rfl⟩
    have HRR : Hid (R = (!(decide (a = b)) && (Sm.keptZ z a == Sm.keptZ z b))) := by show _ = _; rw [← HR.out]; rfl
    rw [HR.out]
    obtain ⟨x, HX⟩ : ∃ r, Hid (decide (a = b) = r) := ⟨_, rfl⟩
    obtain ⟨y, HY⟩ : ∃ r, Hid ((Sm.keptZ z a == Sm.keptZ z b) = r) := ⟨_, rfl⟩
    rw [HX.out] at he HRR
    rw [HY.out] at heq HRR
    obtain ⟨ka, HKa⟩ : ∃ x, Hid ((Sm.cellsOf (Sm.keptZ z a)).toArray = x) := ⟨_, rfl⟩
    obtain ⟨kb, HKb⟩ : ∃ x, Hid ((Sm.cellsOf (Sm.keptZ z b)).toArray = x) := ⟨_, rfl⟩
    rw [HKa.out] at HKA heq
    rw [HKb.out] at HKB heq
    have hgd : Tryd.prog.eqGuardType Tryd.prog.depth 46 = false := by kernel_rfl
    clear hA hB hK hz0 hz HR
    go_enter Tryd.func34, Tryd.ntmps34
    cases x with
    | true =>
      have hR : R = false := HRR.out
      subst hR
      go_wp2
      go_ret
      exact ⟨rfl, Below.refl _ _⟩
    | false =>
      have HRY : Hid (R = y) := HRR.out
      go_wp2_with fail
      refine Calls.mono (HKA.out w (Below.refl _ _)) ?_
      rintro e w1 ⟨rfl, hb1⟩
      have HB1 : Hid (Below w.heap.size w w1) := hb1
      clear hb1 HKA
      go_wp2_with fail
      refine Calls.mono (HKB.out w1 HB1.out) ?_
      rintro e w2 ⟨rfl, hb2⟩
      have HB2 : Hid (Below w.heap.size w w2) := HB1.out.trans (hb2.mono HB1.out.size)
      clear hb2 HKB
      cases y with
      | true =>
        have hR : R = true := HRY.out
        subst hR
        go_wp2
        go_ret
        exact ⟨rfl, HB2.out⟩
      | false =>
        have hR : R = false := HRY.out
        subst hR
        go_wp2
        go_ret
        exact ⟨rfl, HB2.out⟩
theorem point_rangeA (bt : Bool) (A B : Opn) {V : World} {g : Nat} {t : TypeId} (h : V.heap[g]? = some (.cells (pointC bt A B) t (0, 0))) : V.rangeAt g 1 A.cells.toList := fun j v hj => by
  rw [cell_of_row _ _ _ _ _ _ h]
  have hj3 : j < 3 := (List.getElem?_eq_some_iff.1 hj).1
  match j, hj3, hj with
  | 0, _, hj => exact hj
  | 1, _, hj => exact hj
  | 2, _, hj => exact hj
theorem point_rangeB (bt : Bool) (A B : Opn) {V : World} {g : Nat} {t : TypeId} (h : V.heap[g]? = some (.cells (pointC bt A B) t (0, 0))) : V.rangeAt g 4 B.cells.toList := fun j v hj => by
  rw [cell_of_row _ _ _ _ _ _ h]
  have hj3 : j < 3 := (List.getElem?_eq_some_iff.1 hj).1
  match j, hj3, hj with
  | 0, _, hj => exact hj
  | 1, _, hj => exact hj
  | 2, _, hj => exact hj
theorem row_there {V : World} {g : Nat} {cs : Array Value} {t : TypeId} (h : V.heap[g]? = some (.cells cs t (0, 0))) (o n : Nat) (hn : o + n ≤ cs.size) : V.there g o n := fun j hj => by
  refine ⟨?_, frozen_of_row V g _ _ t h⟩
  rw [cell_of_row _ _ _ _ _ _ h, Array.getElem?_eq_getElem (by omega)]
  rfl
theorem set3 (V : World) (g o : Nat) (cs : Array Value) (t : TypeId) (a b c : Value) (h : V.heap[g]? = some (.cells cs t (0, 0))) : (V.setCells g o [a, b, c]).heap[g]? = some (.cells (((cs.setIfInBounds o a).setIfInBounds (o + 1) b).setIfInBounds (o + 1 + 1) c) t (0, 0)) :=
  heap_set _ g _ _ t c (heap_set _ g _ _ t b (heap_set V g o _ t a h))
theorem set3_other (V : World) (g o k : Nat) (a b c : Value) (h : k ≠ g) : (V.setCells g o [a, b, c]).heap[k]? = V.heap[k]? :=
  (Below.heap_setCell _ _ _ _ h).trans ((Below.heap_setCell _ _ _ _ h).trans (Below.heap_setCell _ _ _ _ h))
theorem set3_below {B : Nat} {w V : World} {g o : Nat} (h : Below B w V) (hg : B ≤ g) (a b c : Value) : Below B w (V.setCells g o [a, b, c]) :=
  ((h.setCell hg _).setCell hg _).setCell hg _
set_option maxRecDepth 100000 in
set_option maxHeartbeats 4000000 in
theorem point_any (bt : Bool) (A B : Opn) (w : World) (hA : OpnA w A) (hB : OpnA w B) :
    Calls Tryd.prog 22 #[.agg (pointC bt A B)] w fun e w' => ∃ A' B' : Opn, e = .returned (.agg (pointC bt A' B')) ∧ OpnV w' A' ∧ OpnV w' B' ∧ cutIs A A' ∧ cutIs B B' ∧ A'.ln ≤ 1300 ∧ A'.pn ≤ 20 ∧ B'.ln ≤ 1300 ∧ B'.pn ≤ 20 ∧ OpnF w.heap.size A' ∧ OpnF w.heap.size B' ∧ Below w.heap.size w w' := by
  obtain ⟨W2, HW2⟩ : ∃ W, Hid (W = (w.alloc (.cells (pointC bt A B) 32)).alloc (.cells zeroP 32)) := ⟨_, rfl⟩
  have HF2 : Hid (W2.heap[w.heap.size]? = some (.cells (pointC bt A B) 32 (0, 0)) ∧ W2.heap[w.heap.size + 1]? = some (.cells zeroP 32 (0, 0)) ∧ Below w.heap.size w W2 ∧ W2.heap.size = w.heap.size + 2) := by
    show _ ∧ _
    rw [HW2.out]; exact Sm.frame2 w _ _ _
  have HRA : Hid _ := point_rangeA bt A B HF2.out.1
  have HCA : Hid _ := opening_any A W2 (hA.keep HF2.out.2.2.1)
  have HOB : Hid (OpnA w B) := hB
  have HI30 : Hid ((Tryd.prog.info? 30).map (·.size) = some 3) := size30
  clear hA hB
  go_enter Tryd.func22, Tryd.ntmps22
  go_upto_region 1 with fail
  have HW2' : Hid _ := HW2.out
  unfold zeroP at HW2'
  rw [← HW2'.out]
  go_wp2_with (refine wpList_load_mid rfl 30 (.tmp 3) rfl w.heap.size 1 rfl A.cells.toList _ HRA.out Tryd.underlying30 rfl HI30.out ?_)
  refine Calls.mono HCA.out ?_
  rintro e w3 ⟨⟨a1, lo1, ln1, lc1, bs1, po1, pn1, pc1, ds1⟩, rfl, hV1, hcut1, hn1, hp1, hF1, hb3⟩
  have HB3 : Hid (Below W2.heap.size W2 w3) := hb3
  have HV3 : Hid _ := hV1
  have HF3 : Hid _ := hF1
  have HC3 : Hid _ := And.intro hcut1 (And.intro hn1 hp1)
  have HR3 : Hid (w3.heap[w.heap.size]? = some (.cells (pointC bt A B) 32 (0, 0)) ∧ w3.heap[w.heap.size + 1]? = some (.cells zeroP 32 (0, 0))) := ⟨(hb3.block _ (by have := HF2.out.2.2.2; omega)).trans HF2.out.1, (hb3.block _ (by have := HF2.out.2.2.2; omega)).trans HF2.out.2.1⟩
  clear hb3 hV1 hcut1 hn1 hp1 hF1 HCA HRA
  simp only [Opn.cells]
  go_upto_region 2 with (refine wpList_store_mid rfl 30 (.tmp 6) (.tmp 5) rfl w.heap.size 1 #[.int .i64 a1, .slice lo1 ln1 lc1, .slice po1 pn1 pc1] rfl rfl (row_there HR3.out.1 1 3 (by show 1 + 3 ≤ 7; omega)) HI30.out (one3 _ _ _ _ _ _ _) ?_)
  generalize hW4 : World.setCells _ _ _ _ = W4
  have HR4 : Hid (W4.heap[w.heap.size]? = some (.cells (pointC bt ⟨a1, lo1, ln1, lc1, bs1, po1, pn1, pc1, ds1⟩ B) 32 (0, 0)) ∧ W4.heap[w.heap.size + 1]? = some (.cells zeroP 32 (0, 0))) := ⟨by rw [← hW4]; exact set3 w3 w.heap.size 1 _ _ _ _ _ HR3.out.1, by rw [← hW4]; exact (set3_other w3 w.heap.size 1 _ _ _ _ (by omega)).trans HR3.out.2⟩
  have HB4 : Hid (Below w.heap.size w W4) := by show Below _ _ _; rw [← hW4]; exact set3_below (HF2.out.2.2.1.trans (HB3.out.mono HF2.out.2.2.1.size)) (Nat.le_refl _) _ _ _
  have HV4 : Hid (OpnV W4 ⟨a1, lo1, ln1, lc1, bs1, po1, pn1, pc1, ds1⟩) := HV3.out.shift HF3.out (fun k hk => by rw [← hW4]; exact set3_other w3 w.heap.size 1 k _ _ _ (by have := HF2.out.2.2.2; omega))
  have HRB : Hid _ := point_rangeB bt ⟨a1, lo1, ln1, lc1, bs1, po1, pn1, pc1, ds1⟩ B HR4.out.1
  have HCB : Hid _ := opening_any B W4 (HOB.out.keep HB4.out)
  have HG4 : Hid (w.heap.size + 1 < W4.heap.size) := (Array.getElem?_eq_some_iff.1 HR4.out.2).1
  clear hW4
  go_wp2_with (refine wpList_load_mid rfl 30 (.tmp 7) rfl w.heap.size 4 rfl B.cells.toList _ HRB.out Tryd.underlying30 rfl HI30.out ?_)
  refine Calls.mono HCB.out ?_
  rintro e w5 ⟨⟨a2, lo2, ln2, lc2, bs2, po2, pn2, pc2, ds2⟩, rfl, hV2, hcut2, hn2, hp2, hF2, hb5⟩
  have HB5 : Hid (Below W4.heap.size W4 w5) := hb5
  have HV5 : Hid _ := And.intro (HV4.out.keep hb5) hV2
  have HF5 : Hid _ := hF2
  have HC5 : Hid _ := And.intro hcut2 (And.intro hn2 hp2)
  have HR5 : Hid (w5.heap[w.heap.size]? = some (.cells (pointC bt ⟨a1, lo1, ln1, lc1, bs1, po1, pn1, pc1, ds1⟩ B) 32 (0, 0)) ∧ w5.heap[w.heap.size + 1]? = some (.cells zeroP 32 (0, 0))) := ⟨(hb5.block _ (by have := HG4.out; omega)).trans HR4.out.1, (hb5.block _ HG4.out).trans HR4.out.2⟩
  clear hb5 hV2 hcut2 hn2 hp2 hF2 HCB HRB
  simp only [Opn.cells]
  go_upto_region 3 with (refine wpList_store_mid rfl 30 (.tmp 10) (.tmp 9) rfl w.heap.size 4 #[.int .i64 a2, .slice lo2 ln2 lc2, .slice po2 pn2 pc2] rfl rfl (row_there HR5.out.1 4 3 (by show 4 + 3 ≤ 7; omega)) HI30.out (one3 _ _ _ _ _ _ _) ?_)
  generalize hW6 : World.setCells _ _ _ _ = W6
  have HR6 : Hid (W6.heap[w.heap.size]? = some (.cells #[.bool bt, .int .i64 a1, .slice lo1 ln1 lc1, .slice po1 pn1 pc1, .int .i64 a2, .slice lo2 ln2 lc2, .slice po2 pn2 pc2] 32 (0, 0)) ∧ W6.heap[w.heap.size + 1]? = some (.cells zeroP 32 (0, 0))) := ⟨by rw [← hW6]; exact set3 w5 w.heap.size 4 _ _ _ _ _ HR5.out.1, by rw [← hW6]; exact (set3_other w5 w.heap.size 4 _ _ _ _ (by omega)).trans HR5.out.2⟩
  have HB6 : Hid (Below w.heap.size w W6) := by show Below _ _ _; rw [← hW6]; exact set3_below (HB4.out.trans (HB5.out.mono HB4.out.size)) (Nat.le_refl _) _ _ _
  have HV6 : Hid (OpnV W6 ⟨a1, lo1, ln1, lc1, bs1, po1, pn1, pc1, ds1⟩ ∧ OpnV W6 ⟨a2, lo2, ln2, lc2, bs2, po2, pn2, pc2, ds2⟩) := ⟨HV5.out.1.shift HF3.out (fun k hk => by rw [← hW6]; exact set3_other w5 w.heap.size 4 k _ _ _ (by have := HF2.out.2.2.2; omega)), HV5.out.2.shift HF5.out (fun k hk => by rw [← hW6]; exact set3_other w5 w.heap.size 4 k _ _ _ (by have := HG4.out; omega))⟩
  clear hW6
  go_wp2_with (first | (refine wpList_load_row rfl 32 (.tmp 1) rfl w.heap.size rfl 32 #[.bool bt, .int .i64 a1, .slice lo1 ln1 lc1, .slice po1 pn1 pc1, .int .i64 a2, .slice lo2 ln2 lc2, .slice po2 pn2 pc2] (0, 0) _ HR6.out.1 Tryd.underlying32 rfl size32 ?_) | (refine wpList_store_row rfl 32 (.tmp 2) (.tmp 11) rfl (w.heap.size + 1) #[.bool bt, .int .i64 a1, .slice lo1 ln1 lc1, .slice po1 pn1 pc1, .int .i64 a2, .slice lo2 ln2 lc2, .slice po2 pn2 pc2] rfl rfl 32 zeroP HR6.out.2 size32 rfl (one7 _ _ _ _ _ _ _ _ _ _ _ _ _ _ _) ?_))
  (try simp only [Exit.inBlock, Exit.then])
  refine bodyPost_ret (results_cell_row rfl _ _ (w.heap.size + 1) 32 #[.bool bt, .int .i64 a1, .slice lo1 ln1 lc1, .slice po1 pn1 pc1, .int .i64 a2, .slice lo2 ln2 lc2, .slice po2 pn2 pc2] (0, 0) _ rfl (setRow_heap _ _ _ _ _ _ HR6.out.2) Tryd.underlying32 rfl size32) rfl ?_
  have HK : ∀ o : Opn, OpnV W6 o → OpnF W2.heap.size o → OpnV (W6.setRow (w.heap.size + 1) #[.bool bt, .int .i64 a1, .slice lo1 ln1 lc1, .slice po1 pn1 pc1, .int .i64 a2, .slice lo2 ln2 lc2, .slice po2 pn2 pc2]) o := fun o h hf => h.shift hf (fun k hk => setRow_other W6 (w.heap.size + 1) k _ (by have := HF2.out.2.2.2; omega))
  have hG : W2.heap.size ≤ W4.heap.size := by have := HG4.out; have := HF2.out.2.2.2; omega
  exact ⟨_, _, rfl, HK _ HV6.out.1 HF3.out, HK _ HV6.out.2 ⟨fun x hx => Nat.le_trans hG (HF5.out.leaf x hx), fun x hx => Nat.le_trans hG (HF5.out.path x hx)⟩, HC3.out.1, HC5.out.1, HC3.out.2.1, HC3.out.2.2, HC5.out.2.1, HC5.out.2.2, ⟨fun x hx => by have := HF3.out.leaf x hx; have := HF2.out.2.2.2; omega, fun x hx => by have := HF3.out.path x hx; have := HF2.out.2.2.2; omega⟩, ⟨fun x hx => by have := HF5.out.leaf x hx; have := HF2.out.2.2.2; omega, fun x hx => by have := HF5.out.path x hx; have := HF2.out.2.2.2; omega⟩, below_setRow HB6.out (by omega) _⟩
end Go.Proofs.YtecacjddggljgaaDoor
namespace Go.Proofs.YtecacjddggljgaaDoor
open Go.RowKit Go.Sort Go.Shelf
set_option linter.unusedSectionVars false
variable [Inhabited E] [DecidableEq E]
theorem ks_less {es : List E} (h : Ks es) {i j : Nat} (hij : i < j) (hj : j < es.length) : cmpS es[i]!.key es[j]!.key < 0 := by
  have h1 := List.pairwise_iff_getElem.1 h i j (by omega) hj hij
  rw [getElem!_pos es i (by omega), getElem!_pos es j hj]
  exact h1
theorem ks_at {es : List E} {key : ByteArray} (h : Ks es) {i : Nat} (hi : i < es.length) (hk : es[i]!.key = key) : belowN key es = i ∧ isIn key es = true := by
  have h1 : ¬ i < belowN key es := fun hlt => by
    have := (ks_place key h i hi).2 hlt
    rw [hk] at this
    have := cmpS_ord.self key
    omega
  have h2 : ¬ belowN key es < i := fun hlt => by
    have h3 := ks_less h hlt hi
    rw [hk] at h3
    have := (ks_place key h _ (by omega)).1 h3
    omega
  have h4 : belowN key es = i := by omega
  refine ⟨h4, ?_⟩
  rw [ks_isIn key h, h4, hk]
  simp [hi]
theorem ks_gap {es : List E} {key : ByteArray} (h : Ks es) {i : Nat} (hi : i + 1 < es.length) (h1 : cmpS es[i]!.key key < 0) (h2 : cmpS key es[i + 1]!.key < 0) : isIn key es = false := by
  have h3 := (ks_place key h i (by omega)).1 h1
  have h4 : ¬ i + 1 < belowN key es := fun hlt => by
    have := (ks_place key h (i + 1) hi).2 hlt
    have := (cmpS_ord.anti _ _).1 h2
    omega
  have h5 : belowN key es = i + 1 := by omega
  rw [ks_isIn key h, h5]
  have h6 : es[i + 1]!.key ≠ key := fun he => by
    rw [he] at h2
    have := cmpS_ord.self key
    omega
  rw [decide_eq_false h6, Bool.and_false]
def lvO (o : Opn) : Sm.LV := ⟨o.lo, o.ln, o.lc, o.bs⟩
theorem two_some {z : Int} {o : Option (List UInt8 × List UInt8)} (h : ∀ a b, o = some (a, b) → a ≠ b ∧ Sm.keptZ z a = Sm.keptZ z b) (hn : o ≠ none) : twoB z o = true := by
  cases o with
  | none => exact absurd rfl hn
  | some p =>
    obtain ⟨h1, h2⟩ := h p.1 p.2 rfl
    unfold twoB
    simp only [decide_eq_false h1, h2, beq_self_eq_true, Bool.not_false, Bool.and_self]
theorem sound_one {z : Int} {es : List E} {ls : List Sm.LV} {A : Opn} {a : E} (hf : fitB es = true) (hb : Sm.bytesL ls = es.map bytesB) (hds : ∀ d ∈ A.ds, d.length = 32) (h : entryO z (Sm.rootD z (es.map bytesB)) (es.length : Int) A = some a) :
    twoB z (Sm.ofO z ls A.at_ (lvO A) A.ds) = true ∨ ∃ i : Nat, A.at_ = (i : Int) ∧ i < es.length ∧ a = es[i]! := by
  have hl : ls.length = es.length := by
    have := congrArg List.length hb
    simpa [Sm.bytesL] using this
  have hn := (fit_len hf).2
  unfold entryO at h
  split at h
  · rename_i hc
    obtain ⟨i, hi, hil, h1, h2⟩ := Sm.ofO_sound z ls A.at_ (lvO A) A.ds (by omega) hds (by rw [hb, hl]; exact hc)
    by_cases ho : Sm.ofO z ls A.at_ (lvO A) A.ds = none
    · refine .inr ⟨i, hi, by omega, ?_⟩
      have h3 : A.bs = Sm.bsAt ls i := (h2.1 ho).1
      have h4 : A.bs = bytesB es[i]! := by
        rw [h3]
        unfold Sm.bsAt
        rw [hb, List.getD_eq_getElem?_getD, List.getElem?_map, List.getElem?_eq_getElem (by omega), getElem!_pos es i (by omega)]
        rfl
      rw [h4, sole_bytes (fit_right hf (by omega))] at h
      cases h
      rfl
    · exact .inl (two_some h1 ho)
  · cases h
theorem sound_math {z : Int} {es : List E} {ls : List Sm.LV} {key : ByteArray} {bt : Bool} {A B : Opn} {r : Option E} (hf : fitB es = true) (hb : Sm.bytesL ls = es.map bytesB) (hA : ∀ d ∈ A.ds, d.length = 32) (hB : ∀ d ∈ B.ds, d.length = 32) (h : chkO z (Sm.rootD z (es.map bytesB)) (es.length : Int) es[0]!.key es[es.length - 1]!.key key bt A B = some r) :
    (r = if isIn key es = true then some es[belowN key es]! else none) ∨ (twoB z (Sm.ofO z ls A.at_ (lvO A) A.ds) || (bt && twoB z (Sm.ofO z ls B.at_ (lvO B) B.ds))) = true := by
  have hks := fit_ks hf
  unfold chkO at h
  cases he : entryO z (Sm.rootD z (es.map bytesB)) (es.length : Int) A with
  | none => rw [he] at h; cases h
  | some a =>
    rw [he] at h
    unfold chkM at h
    simp only at h
    split at h
    · rcases sound_one hf hb hA he with h1 | ⟨i, hi, hil, rfl⟩
      · exact .inr (by rw [h1, Bool.true_or])
      · cases bt with
        | false =>
          simp only [Bool.false_eq_true, if_false] at h
          split at h
          · rename_i h2
            cases h
            simp only [Bool.and_eq_true, decide_eq_true_eq] at h2
            obtain ⟨h3, h4⟩ := ks_at hks hil h2.1
            exact .inl (by rw [h4, if_pos rfl, h3])
          · cases h
        | true =>
          simp only [if_true] at h
          split at h
          · rename_i h2
            cases h
            rw [Bool.and_eq_true, decide_eq_true_eq] at h2
            obtain ⟨h3, h4⟩ := h2
            unfold saB at h4
            cases heB : entryO z (Sm.rootD z (es.map bytesB)) (es.length : Int) B with
            | none => rw [heB] at h4; cases h4
            | some b =>
              rw [heB] at h4
              unfold saM at h4
              simp only [Bool.and_eq_true, decide_eq_true_eq] at h4
              rcases sound_one hf hb hB heB with h5 | ⟨j, hj, hjl, rfl⟩
              · exact .inr (by rw [h5]; simp)
              · have hij : j = i + 1 := by omega
                subst hij
                exact .inl (by rw [ks_gap hks hjl h3 h4.2]; rfl)
          · cases h
    · cases h
end Go.Proofs.YtecacjddggljgaaDoor
